import unittest
from itertools import permutations
from math import comb, factorial

from halfcuts.counting import all_edits, count_edits
from halfcuts.edits import Edit, kind_of
from halfcuts.errors import InvalidNumber
from halfcuts.loops import is_loop
from tests.plainly import is_reduced
from tests.samples import raised

KINDS = ("shuffle", "retime", "loop")
# How many pairs the slow search can do, for each kind.
SEARCHED = {"shuffle": 4, "retime": 6, "loop": 5}


def grown_cuts(many):
    """Return all cuts of so many pieces, by halving one piece after the other in all ways."""
    found = {("",)}
    for _ in range(many - 1):
        found = {
            tuple(sorted(set(cut) - {word} | {word + "0", word + "1"})) for cut in found for word in cut
        }
    return [list(cut) for cut in found]


def searched(many, kind):
    """Return the ascending list of the reduced pairs of all edits of a kind."""
    found = []
    for sources in grown_cuts(many):
        for cut in grown_cuts(many):
            if kind == "shuffle":
                orders = permutations(cut)
            elif kind == "loop":
                orders = [cut[many - k:] + cut[:many - k] for k in range(many)]
            else:
                orders = [cut]
            found.extend([list(zip(sources, targets)) for targets in orders])
    return sorted(pairs for pairs in found if is_reduced(pairs))


SLOW = {(many, kind): searched(many, kind) for kind in KINDS for many in range(1, SEARCHED[kind] + 1)}


def walk_first(pairs, kind):
    return next(iter(all_edits(pairs, kind)))


class ExampleTest(unittest.TestCase):
    def test_the_example_of_the_document(self):
        self.assertEqual(
            [[count_edits(pairs, 'shuffle') for pairs in (1, 2, 3, 4)],
             [count_edits(pairs, 'loop') for pairs in (3, 4)], count_edits(4, 'retime'),
             [edit.pairs for edit in all_edits(3, 'retime')]],
            [[1, 1, 20, 530], [8, 66], 14,
             [[('0', '00'), ('10', '01'), ('11', '1')], [('00', '0'), ('01', '10'), ('1', '11')]]])


class CountTest(unittest.TestCase):
    def test_against_a_slow_search(self):
        for (many, kind), found in SLOW.items():
            self.assertEqual(count_edits(many, kind), len(found), (many, kind))

    def test_every_list_of_pairs_is_one_edit_with_its_pairs_cut_on(self):
        # So many pieces are cut on into so many in a known number of ways: lists of any pairs tell the reduced ones.
        def ways(few, many):
            return few * comb(2 * many - few, many) // (2 * many - few)

        for kind in KINDS:
            counts = {many: count_edits(many, kind) for many in range(1, 61)}
            for many in range(1, 61):
                orders = {"shuffle": factorial(many), "loop": many, "retime": 1}[kind]
                total = sum(counts[few] * ways(few, many) for few in range(1, many + 1))
                self.assertEqual(total, ways(1, many) ** 2 * orders, (many, kind))

    def test_edges(self):
        self.assertEqual([count_edits(1, kind) for kind in KINDS], [1, 1, 1])
        self.assertEqual([count_edits(2, kind) for kind in KINDS], [1, 0, 1])
        for many in range(3, 61):
            shuffles, retimes, loops = [count_edits(many, kind) for kind in KINDS]
            self.assertTrue(0 < retimes < loops < shuffles)

    def test_wrong_numbers(self):
        for kind in KINDS:
            for pairs in (0, -1, -60, -10 ** 30):
                self.assertEqual(raised(InvalidNumber, count_edits, pairs, kind), pairs)

    def test_by_name(self):
        self.assertEqual(count_edits(kind="loop", pairs=4), 66)


class AllTest(unittest.TestCase):
    def test_against_a_slow_search(self):
        for (many, kind), found in SLOW.items():
            if many <= 4:
                self.assertEqual([edit.pairs for edit in all_edits(many, kind)], found, (many, kind))

    def test_edits_of_their_kind_each_once_and_ascending(self):
        for many in (1, 2, 3, 4):
            for kind in KINDS[1:] if many == 4 else KINDS:
                edits = list(all_edits(many, kind))
                lists = [edit.pairs for edit in edits]
                self.assertEqual(len(edits), count_edits(many, kind))
                self.assertTrue(all(low < high for low, high in zip(lists, lists[1:])))
                for edit in edits:
                    self.assertIsInstance(edit, Edit)
                    self.assertEqual(len(edit), many)
                    self.assertEqual(Edit(edit.pairs).pairs, edit.pairs)
                    if kind == "retime":
                        self.assertIn(kind_of(edit), ("same", "retime"))
                    if kind == "loop":
                        self.assertIs(is_loop(edit), True)

    def test_edges(self):
        for kind in KINDS:
            self.assertEqual([edit.pairs for edit in all_edits(1, kind)], [[("", "")]])
        self.assertEqual(list(all_edits(2, "retime")), [])
        self.assertEqual([edit.pairs for edit in all_edits(2, "loop")], [[("0", "1"), ("1", "0")]])
        self.assertEqual([edit.pairs for edit in all_edits(2, "shuffle")], [[("0", "1"), ("1", "0")]])

    def test_two_walks_at_the_same_time(self):
        expected = SLOW[4, "loop"]
        one, two = iter(all_edits(4, "loop")), iter(all_edits(4, "loop"))
        ahead = [next(one).pairs for _ in range(3)]
        both = [(edit.pairs, next(two).pairs) for edit in one]
        self.assertEqual(ahead + [first for first, _ in both], expected)
        self.assertEqual([second for _, second in both] + [edit.pairs for edit in two], expected)
        other = [edit.pairs for edit in all_edits(3, "shuffle") for _ in all_edits(2, "shuffle")]
        self.assertEqual(other, SLOW[3, "shuffle"])

    def test_a_walk_that_is_not_ended(self):
        walk = iter(all_edits(3, "shuffle"))
        first = next(walk)
        first.pairs.clear()
        self.assertEqual(walk_first(3, "shuffle").pairs, SLOW[3, "shuffle"][0])
        self.assertEqual(next(walk).pairs, SLOW[3, "shuffle"][1])

    def test_wrong_numbers(self):
        for kind in KINDS:
            for pairs in (0, -1, -10 ** 30):
                self.assertEqual(raised(InvalidNumber, walk_first, pairs, kind), pairs)

    def test_by_name(self):
        self.assertEqual([edit.pairs for edit in all_edits(kind="retime", pairs=3)], SLOW[3, "retime"])


if __name__ == "__main__":
    unittest.main()
