"""Names, places and arguments of the interface, and the rules about files that can be counted."""

import ast
import builtins
import doctest
import inspect
import unittest
from importlib import import_module
from pathlib import Path

import halfcuts

FOLDER = Path(halfcuts.__file__).parent

FUNCTIONS = {
    "words": {
        "is_cut": ["words"], "cut_with": ["words"], "halved": ["cut", "piece"],
        "common_cut": ["cut", "other"], "piece_of": ["cut", "moment"],
    },
    "moments": {
        "plain": ["moment"], "letters": ["moment", "low", "high"], "value": ["moment"],
        "moments_at": ["top", "bottom"], "is_before": ["first", "second"],
        "have_common_tail": ["first", "second"],
    },
    "edits": {
        "identity": [], "kind_of": ["edit"], "image": ["edit", "word"], "power": ["edit", "exponent"],
    },
    "orders": {
        "order": ["edit"], "permuted_cut": ["edit"], "cycle_lengths": ["edit"], "is_permuted": ["edit", "words"],
        "is_drawn": ["edit", "piece", "steps", "rest"], "drawn_piece": ["edit"],
    },
    "fates": {
        "fate": ["edit", "moment"], "pull": ["edit", "moment"], "drawing_cycles": ["edit"],
        "repelling_cycles": ["edit"], "shares": ["edit"], "returning": ["edit", "n"],
    },
    "far": {
        "letters_after": ["edit", "moment", "n", "low", "high"], "visits": ["edit", "moment", "piece", "n"],
        "first_visit": ["edit", "moment", "piece"], "share": ["edit", "moment", "piece"],
    },
    "loops": {
        "is_loop": ["edit"], "rotation": ["edit"], "turn_loop": ["turns", "n"], "loop_between": ["first", "second"],
    },
    "alike": {
        "are_alike": ["first", "second"], "edit_between": ["first", "second"], "root": ["edit", "k"],
        "two_swaps": ["edit"],
    },
    "moving": {"can_take": ["pairs"], "edit_taking": ["pairs"]},
    "counting": {"count_edits": ["pairs", "kind"], "all_edits": ["pairs", "kind"]},
    "texts": {"show_edit": ["edit"], "show_moment": ["moment"]},
    "readings": {"read_edit": ["text"], "read_moment": ["text"]},
}
CLASSES = {
    "errors": [
        "CutError", "InvalidWord", "InvalidMoment", "InvalidPairs", "InvalidNumber", "InvalidExponent",
        "NoOrder", "NoLoop", "NoMark", "NothingToUndo", "Unreadable",
    ],
    "edits": ["Edit"],
    "clips": ["Clip"],
}
# The arguments of a class, the methods that the interface lists for it, which stand in the class itself, with their
# arguments where they may be passed by name, and its properties.
METHODS = {
    ("edits", "Edit"): (
        ["pairs"], {"__len__": None, "__eq__": None, "__add__": None, "__neg__": None, "__call__": None},
        ["pairs", "sources", "targets"],
    ),
    ("clips", "Clip"): (
        [],
        {"__eq__": None, "names": [], "apply": ["edit"], "mark": ["name", "moment"], "where": ["name"], "undo": [],
         "of_texts": ["texts"]},
        ["edit"],
    ),
}
# What the rules let the package use of Python's own functions, and of the methods of its values.
BUILTINS = """len range enumerate zip min max sum abs sorted reversed int str bool list tuple dict set isinstance ord repr
any all divmod property classmethod super ValueError""".split()
BUILTIN_METHODS = """append clear copy count endswith extend find get index insert isalnum isalpha isdigit islower
isspace isupper items join keys ljust lower lstrip partition pop remove replace reverse rfind rjust rpartition rsplit
rstrip setdefault split splitlines startswith strip update upper values zfill bit_length add __init__""".split()


class InterfaceTest(unittest.TestCase):
    def test_functions_and_their_arguments(self):
        for file, functions in FUNCTIONS.items():
            module = import_module("halfcuts." + file)
            for name, arguments in functions.items():
                function = getattr(module, name)
                self.assertEqual(function.__module__, "halfcuts." + file)
                self.assertEqual(list(inspect.signature(function).parameters), arguments)
                for parameter in inspect.signature(function).parameters.values():
                    self.assertEqual(parameter.kind, parameter.POSITIONAL_OR_KEYWORD)

    def test_classes(self):
        for file, names in CLASSES.items():
            module = import_module("halfcuts." + file)
            for name in names:
                self.assertTrue(inspect.isclass(getattr(module, name)))
                self.assertEqual(getattr(module, name).__module__, "halfcuts." + file)

    def test_methods_and_the_arguments_of_classes(self):
        for (file, name), (arguments, methods, properties) in METHODS.items():
            found = getattr(import_module("halfcuts." + file), name)
            self.assertEqual(list(inspect.signature(found).parameters), arguments)
            for method, names in methods.items():
                self.assertIn(method, found.__dict__)
                if names is not None:
                    bound = getattr(found(), method)
                    self.assertEqual(list(inspect.signature(bound).parameters), names)
            for attribute in properties:
                self.assertIsInstance(found.__dict__[attribute], property)


class FilesTest(unittest.TestCase):
    def files(self):
        return sorted(FOLDER.rglob("*.py"))

    def test_the_folder_holds_only_python_files(self):
        others = [path for path in FOLDER.rglob("*") if path.suffix != ".py" and "__pycache__" not in path.parts]
        self.assertEqual(others, [])

    def test_sizes_and_characters(self):
        for path in self.files():
            text = path.read_text(encoding="utf-8")
            lines = text.split("\n")
            self.assertLessEqual(len(lines), 399, path)
            self.assertLessEqual(max([len(line) for line in lines]), 120, path)
            self.assertTrue(all(sign == "\n" or " " <= sign <= "~" for sign in text), path)

    def test_functions_of_at_most_forty_lines(self):
        for path in self.files():
            for node in ast.walk(ast.parse(path.read_text(encoding="utf-8"))):
                if isinstance(node, ast.FunctionDef):
                    self.assertLessEqual(node.end_lineno - node.lineno + 1, 40, (path, node.name))

    def test_imports(self):
        for path in self.files():
            for node in ast.walk(ast.parse(path.read_text(encoding="utf-8"))):
                self.assertNotIsInstance(node, ast.Import, path)
                if isinstance(node, ast.ImportFrom):
                    top = node.module.split(".")[0]
                    self.assertIn(top, ("halfcuts", "math", "itertools", "heapq", "collections"), path)
                    self.assertEqual(node.level, 0, path)

    def test_names_of_python_that_are_used(self):
        trees = [(path, ast.parse(path.read_text(encoding="utf-8"))) for path in self.files()]
        own = [node.name for _, tree in trees for node in ast.walk(tree) if isinstance(node, ast.FunctionDef)]
        for path, tree in trees:
            for node in ast.walk(tree):
                if isinstance(node, ast.Name) and hasattr(builtins, node.id):
                    self.assertIn(node.id, BUILTINS, (path, node.lineno))
                if isinstance(node, ast.Call) and isinstance(node.func, ast.Attribute):
                    self.assertIn(node.func.attr, BUILTIN_METHODS + own, (path, node.lineno))

    def test_expressions_that_are_not_used(self):
        barred = (ast.GeneratorExp, ast.Div, ast.AsyncFunctionDef)
        for path in self.files():
            for node in ast.walk(ast.parse(path.read_text(encoding="utf-8"))):
                self.assertNotIsInstance(node, barred, path)
                if isinstance(node, ast.Constant):
                    self.assertNotIsInstance(node.value, (float, complex, bytes), path)

    def test_no_two_files_import_from_each_other(self):
        needs = {}
        for path in self.files():
            tree = ast.parse(path.read_text(encoding="utf-8"))
            froms = [node.module for node in ast.walk(tree) if isinstance(node, ast.ImportFrom)]
            needs[path.stem] = [name.split(".")[1] for name in froms if name.startswith("halfcuts.")]
        while needs:
            free = [name for name, others in needs.items() if not any(other in needs for other in others)]
            self.assertNotEqual(free, [], needs)
            for name in free:
                del needs[name]

    def test_the_examples_of_the_readme(self):
        text = (FOLDER.parent / "README.md").read_text(encoding="utf-8")
        found = doctest.DocTestParser().get_doctest(text.replace("```", ""), {}, "README.md", None, 0)
        self.assertGreater(len(found.examples), 10)
        self.assertEqual(doctest.DocTestRunner(verbose=False).run(found).failed, 0)


if __name__ == "__main__":
    unittest.main()
