import random
import unittest
from itertools import product

from halfcuts.alike import are_alike, edit_between, root, two_swaps
from halfcuts.edits import Edit, identity, power
from halfcuts.errors import InvalidNumber, NoOrder
from halfcuts.fates import fate
from halfcuts.loops import is_loop, turn_loop
from halfcuts.orders import cycle_lengths, order, permuted_cut
from tests.plainly import CLOCK, FOUR, LONG_CYCLES, SMALL, cycles_of_pieces, moved, periods, random_cut
from tests.plainly import seen_through, some_pairs
from tests.samples import all_moments, raised

FAR = 10 ** 30
GROW = [("00", "0"), ("01", "10"), ("1", "11")]
ONE = [("00", "01"), ("01", "00"), ("1", "1")]
TWO = [("0", "0"), ("10", "11"), ("11", "10")]
SWAP = [("0", "1"), ("1", "0")]
MOMENTS = all_moments(2, 2) + [("", "0011"), ("010", "110"), ("1011", "01")]


def having_order(lists):
    return [Edit(pairs) for pairs in lists if order(Edit(pairs)) is not None]


def permuting(seed, times):
    """Return edits of up to seven reduced pairs that permute cuts, as they are or seen through other edits."""
    chance = random.Random(seed)
    found = []
    while len(found) < times:
        cut = random_cut(chance, chance.randrange(2, 8), chance.random())
        other = list(cut)
        chance.shuffle(other)
        edit = Edit(list(zip(cut, other)))
        if chance.random() < 0.7:
            [between] = some_pairs(chance.randrange(10 ** 6), chance.randrange(2, 6), 1)
            edit = -Edit(between) + edit + Edit(between)
        if len(edit) <= 7:
            found.append(edit)
    return found


ORDERED = having_order(SMALL + FOUR)
PERMUTING = permuting(41, 150) + having_order(LONG_CYCLES)


def lengths(edit):
    """Return the lengths of the cycles of pieces in the coarsest cut, ascending, each as often as it occurs."""
    return cycles_of_pieces(edit.pairs, permuted_cut(edit))


class AlikeTest(unittest.TestCase):
    def check_between(self, first, second, between):
        """Check an edit by pairs and, told step by step, by moments."""
        self.assertEqual(Edit(between.pairs), between)
        self.assertEqual(-between + first + between, second)
        for moment in MOMENTS[::5]:
            self.assertEqual(seen_through(first.pairs, between.pairs, moment), moved(second.pairs, moment))


class ExampleTest(unittest.TestCase):
    def test_the_example_of_the_document(self):
        one = Edit([('00', '01'), ('01', '00'), ('1', '1')])
        two = Edit([('0', '0'), ('10', '11'), ('11', '10')])
        between, swap = edit_between(one, two), Edit([('0', '1'), ('1', '0')])
        self.assertEqual(
            [are_alike(one, two), -between + one + between == two, are_alike(one, swap),
             power(root(swap, 2), 2) == swap, sum([len(edit + edit) for edit in two_swaps(one)])],
            [True, True, False, True, 2])


class AreAlikeTest(AlikeTest):
    def test_small_edits_by_the_moments_that_come_back(self):
        # Moments come back after the same numbers of repetitions: h takes those of the one edit to those of the other.
        told = [(edit, periods(edit.pairs)) for edit in ORDERED[::3]]
        found = {True: 0, False: 0}
        for (first, numbers), (second, others) in product(told, repeat=2):
            self.assertIs(are_alike(first, second), numbers == others)
            found[numbers == others] += 1
        self.assertGreater(found[True], 400)
        self.assertGreater(found[False], 1000)

    def test_larger_edits_by_their_cycles(self):
        found = {True: 0, False: 0}
        for first, second in product(PERMUTING[::2], PERMUTING[1::2]):
            same = set(lengths(first)) == set(lengths(second))
            self.assertIs(are_alike(first, second), same)
            found[same] += 1
        self.assertGreater(found[True], 100)
        self.assertGreater(found[False], 100)

    def test_alike_seen_through_any_other_edit(self):
        for edit, pairs in product(ORDERED[::12], SMALL[::2] + FOUR[::60]):
            through = -Edit(pairs) + edit + Edit(pairs)
            if len(through) <= 7:
                self.assertIs(are_alike(edit, through), True)
                self.assertIs(are_alike(through, edit), True)

    def test_alike_edits_have_the_same_order(self):
        for first, second in product(PERMUTING[::3], PERMUTING[1::3]):
            if are_alike(first, second):
                self.assertEqual(order(first), order(second))

    def test_the_same_order_is_not_enough(self):
        # Of lengths 1, 2, 3 and of 2 and 3: both have the order 6.
        first = Edit([("00", "01"), ("01", "00"), ("100", "101"), ("101", "110"), ("110", "100"), ("111", "111")])
        second = Edit([("00", "01"), ("01", "00"), ("10", "110"), ("110", "111"), ("111", "10")])
        self.assertEqual((order(first), order(second)), (6, 6))
        self.assertIs(are_alike(first, second), False)
        self.assertIsNone(edit_between(first, second))

    def test_edges(self):
        self.assertIs(are_alike(identity(), identity()), True)
        self.assertIs(are_alike(identity(), Edit(SWAP)), False)
        self.assertIs(are_alike(Edit(SWAP), identity()), False)
        self.assertIs(are_alike(Edit(ONE), Edit(SWAP)), False)
        # One cycle of two pieces against two such cycles.
        twice = Edit([("00", "01"), ("01", "00"), ("10", "11"), ("11", "10")])
        self.assertEqual((lengths(Edit(SWAP)), lengths(twice)), ([2], [2, 2]))
        self.assertIs(are_alike(Edit(SWAP), twice), True)
        self.assertIs(are_alike(Edit(CLOCK), turn_loop(1, 8)), False)
        for turns in (1, 2, 3, 4):
            self.assertIs(are_alike(turn_loop(turns, 5), turn_loop(1, 5)), True)

    def test_wrong_edits(self):
        grow, swap = Edit(GROW), Edit(SWAP)
        for call in (are_alike, edit_between):
            for first, second in [(grow, swap), (swap, grow), (grow, grow), (grow, -grow), (identity(), grow)]:
                self.assertIsNone(raised(NoOrder, call, first, second))
        self.assertEqual((grow.pairs, swap.pairs), (GROW, SWAP))

    def test_by_name(self):
        self.assertIs(are_alike(second=Edit(TWO), first=Edit(ONE)), True)


class EditBetweenTest(AlikeTest):
    def test_small_edits(self):
        found = 0
        for first, second in product(ORDERED[::5], ORDERED[1::7]):
            between = edit_between(first, second)
            self.assertIs(between is not None, cycle_lengths(first) == cycle_lengths(second))
            if between is not None:
                found += 1
                self.check_between(first, second, between)
        self.assertGreater(found, 100)

    def test_larger_edits(self):
        found = 0
        for first, second in product(PERMUTING[::3], PERMUTING[1::2]):
            between = edit_between(first, second)
            self.assertIs(between is not None, set(lengths(first)) == set(lengths(second)))
            if between is not None:
                found += 1
                self.check_between(first, second, between)
        self.assertGreater(found, 50)

    def test_against_all_edits_of_up_to_four_pairs(self):
        edits = having_order(SMALL)
        for first in edits:
            seen = [(-Edit(pairs) + first + Edit(pairs)).pairs for pairs in SMALL + FOUR]
            for second in edits:
                between = edit_between(first, second)
                if between is None:
                    self.assertNotIn(second.pairs, seen)
                else:
                    self.check_between(first, second, between)

    def test_cycles_as_long_but_not_as_often(self):
        often = Edit([("000", "001"), ("001", "000"), ("010", "011"), ("011", "010"), ("10", "11"), ("11", "10")])
        self.assertEqual(lengths(often), [2, 2, 2])
        mixed = [
            Edit([("00", "01"), ("01", "00"), ("1", "1")]),
            Edit([("000", "001"), ("001", "000"), ("01", "01"), ("10", "11"), ("11", "10")]),
            Edit([("00", "00"), ("010", "010"), ("011", "10"), ("10", "011"), ("11", "11")]),
        ]
        self.assertEqual([lengths(edit) for edit in mixed], [[1, 2], [1, 2, 2], [1, 1, 1, 2]])
        for edits in ([often, Edit(SWAP), power(Edit(CLOCK), 32)], mixed):
            for first, second in product(edits, repeat=2):
                self.check_between(first, second, edit_between(first, second))
        for first, second in product(mixed, [often, Edit(SWAP), identity()]):
            self.assertIsNone(edit_between(first, second))
            self.assertIsNone(edit_between(second, first))

    def test_one_long_cycle(self):
        clock = Edit(CLOCK)
        for exponent in (3, -1, 31):
            other = power(clock, exponent)
            if len(other) <= 7:
                self.check_between(clock, other, edit_between(clock, other))
        self.check_between(clock, -clock, edit_between(clock, -clock))
        long = [Edit(pairs) for pairs in LONG_CYCLES[:2]]
        self.assertIsNone(edit_between(*long))
        for edit in having_order(LONG_CYCLES):
            self.check_between(edit, -edit, edit_between(edit, -edit))

    def test_edges(self):
        self.check_between(identity(), identity(), edit_between(identity(), identity()))
        for pairs in (ONE, SWAP):
            self.check_between(Edit(pairs), Edit(pairs), edit_between(Edit(pairs), Edit(pairs)))
        # Turns by 1 / 5 and 2 / 5 are alike, though by no loop.
        first, second = turn_loop(1, 5), turn_loop(2, 5)
        between = edit_between(first, second)
        self.check_between(first, second, between)
        self.assertIs(is_loop(between), False)

    def test_what_is_returned_may_be_passed_on(self):
        between = edit_between(Edit(ONE), Edit(TWO))
        self.assertEqual(power(between, 12) + power(between, -12), identity())
        self.assertEqual(Edit(between.pairs[::-1]), between)

    def test_by_name(self):
        self.check_between(Edit(ONE), Edit(TWO), edit_between(second=Edit(TWO), first=Edit(ONE)))


class RootTest(unittest.TestCase):
    def check(self, edit, k):
        found = root(edit, k)
        self.assertEqual(Edit(found.pairs), found)
        self.assertEqual(power(found, k), edit)
        for moment in MOMENTS[::7]:
            there = moment
            for _ in range(k):
                there = moved(found.pairs, there)
            self.assertEqual(there, moved(edit.pairs, moment))

    def test_every_small_edit(self):
        for edit, k in product(ORDERED[::4], range(1, 7)):
            self.check(edit, k)

    def test_larger_edits(self):
        for edit, k in product(PERMUTING, range(1, 7)):
            self.check(edit, k)

    def test_turns(self):
        # Lengths that have nothing in common with k, something, and all of it.
        for n, k in product(range(1, 8), range(1, 7)):
            self.check(turn_loop(1 % n, n), k)

    def test_edges(self):
        for k in range(1, 7):
            self.check(identity(), k)
            self.check(Edit(CLOCK), k)
        for edit in (identity(), Edit(SWAP), Edit(ONE)):
            self.assertEqual(root(edit, 1), edit)
        # No number of repetitions of the swap is a root of it for an even k.
        self.assertNotIn(root(Edit(SWAP), 2), [Edit(SWAP), identity()])
        self.assertEqual(order(root(Edit(SWAP), 2)), 4)

    def test_wrong_numbers_and_edits(self):
        for edit in (Edit(SWAP), Edit(GROW), identity()):
            for k in (0, -1, 7, 8, FAR, -FAR):
                self.assertEqual(raised(InvalidNumber, root, edit, k), k)
        for k in range(1, 7):
            self.assertIsNone(raised(NoOrder, root, Edit(GROW), k))
            self.assertIsNone(raised(NoOrder, root, -Edit(GROW), k))

    def test_by_name(self):
        self.assertEqual(power(root(k=3, edit=Edit(ONE)), 3), Edit(ONE))


class TwoSwapsTest(unittest.TestCase):
    def check(self, edit):
        both = two_swaps(edit)
        self.assertIsInstance(both, tuple)
        first, second = both
        for swap in both:
            self.assertEqual(Edit(swap.pairs), swap)
            self.assertEqual(swap + swap, identity())
            for moment in MOMENTS[::7]:
                self.assertEqual(moved(swap.pairs, moved(swap.pairs, moment)), moved([("", "")], moment))
        self.assertEqual(first + second, edit)
        for moment in MOMENTS[::7]:
            self.assertEqual(moved(second.pairs, moved(first.pairs, moment)), moved(edit.pairs, moment))

    def test_every_small_edit(self):
        for edit in ORDERED:
            self.check(edit)

    def test_larger_edits(self):
        for edit in PERMUTING:
            self.check(edit)

    def test_edges(self):
        self.assertEqual(two_swaps(identity()), (identity(), identity()))
        for n in range(1, 8):
            for turns in range(n):
                self.check(turn_loop(turns, n))
        self.check(Edit(CLOCK))

    def test_wrong_edits(self):
        for edit in (Edit(GROW), -Edit(GROW)):
            self.assertIsNone(raised(NoOrder, two_swaps, edit))
        self.assertEqual(fate(Edit(GROW), ("", "0")), ("back", 1))

    def test_by_name(self):
        first, second = two_swaps(edit=Edit(ONE))
        self.assertEqual(first + second, Edit(ONE))


class ListsTest(unittest.TestCase):
    def test_edits_stay_and_lists_are_new(self):
        one, two = Edit(ONE), Edit(TWO)
        found = [edit_between(one, two), root(one, 1), *two_swaps(one)]
        before = [edit.pairs for edit in found]
        for edit in found:
            edit.pairs.clear()
        self.assertEqual([edit.pairs for edit in found], before)
        self.assertEqual((one.pairs, two.pairs), (ONE, TWO))


if __name__ == "__main__":
    unittest.main()
