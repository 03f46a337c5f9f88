"""Names, places and arguments of the interface, and the rules about files that can be counted."""

import ast
import inspect
import unittest
from importlib import import_module
from pathlib import Path

import halfcuts

FOLDER = Path(halfcuts.__file__).parent

FUNCTIONS = {
    "words": {
        "is_cut": ["words"], "cut_with": ["words"], "halved": ["cut", "piece"],
        "common_cut": ["cut", "other"], "piece_of": ["cut", "moment"],
    },
    "moments": {
        "plain": ["moment"], "letters": ["moment", "low", "high"], "value": ["moment"],
        "moments_at": ["top", "bottom"], "is_before": ["first", "second"],
        "have_common_tail": ["first", "second"],
    },
}
CLASSES = {
    "errors": [
        "CutError", "InvalidWord", "InvalidMoment", "InvalidPairs", "InvalidNumber", "InvalidExponent",
        "NoOrder", "NoLoop", "NoMark", "NothingToUndo", "Unreadable",
    ],
}


class InterfaceTest(unittest.TestCase):
    def test_functions_and_their_arguments(self):
        for file, functions in FUNCTIONS.items():
            module = import_module("halfcuts." + file)
            for name, arguments in functions.items():
                function = getattr(module, name)
                self.assertEqual(function.__module__, "halfcuts." + file)
                self.assertEqual(list(inspect.signature(function).parameters), arguments)
                for parameter in inspect.signature(function).parameters.values():
                    self.assertEqual(parameter.kind, parameter.POSITIONAL_OR_KEYWORD)

    def test_classes(self):
        for file, names in CLASSES.items():
            module = import_module("halfcuts." + file)
            for name in names:
                self.assertTrue(inspect.isclass(getattr(module, name)))
                self.assertEqual(getattr(module, name).__module__, "halfcuts." + file)


class FilesTest(unittest.TestCase):
    def files(self):
        return sorted(FOLDER.rglob("*.py"))

    def test_the_folder_holds_only_python_files(self):
        others = [path for path in FOLDER.rglob("*") if path.suffix != ".py" and "__pycache__" not in path.parts]
        self.assertEqual(others, [])

    def test_sizes_and_characters(self):
        for path in self.files():
            text = path.read_text(encoding="utf-8")
            lines = text.split("\n")
            self.assertLessEqual(len(lines), 399, path)
            self.assertLessEqual(max([len(line) for line in lines]), 120, path)
            self.assertTrue(all(sign == "\n" or " " <= sign <= "~" for sign in text), path)

    def test_functions_of_at_most_forty_lines(self):
        for path in self.files():
            for node in ast.walk(ast.parse(path.read_text(encoding="utf-8"))):
                if isinstance(node, ast.FunctionDef):
                    self.assertLessEqual(node.end_lineno - node.lineno + 1, 40, (path, node.name))

    def test_imports(self):
        for path in self.files():
            for node in ast.walk(ast.parse(path.read_text(encoding="utf-8"))):
                self.assertNotIsInstance(node, ast.Import, path)
                if isinstance(node, ast.ImportFrom):
                    top = node.module.split(".")[0]
                    self.assertIn(top, ("halfcuts", "math", "itertools", "heapq", "collections"), path)
                    self.assertEqual(node.level, 0, path)


if __name__ == "__main__":
    unittest.main()
