import unittest
from fractions import Fraction
from itertools import product
from math import gcd

from halfcuts.edits import Edit, identity, kind_of, power
from halfcuts.errors import InvalidNumber, NoLoop, NoOrder
from halfcuts.fates import drawing_cycles, repelling_cycles
from halfcuts.loops import is_loop, loop_between, rotation, turn_loop
from halfcuts.orders import order
from tests.plainly import CLOCK, FOUR, SMALL, back_after, moved, seen_through, some_loops, some_pairs, turns_around
from tests.samples import all_moments, raised

FAR = 10 ** 30
GROW = [("00", "0"), ("01", "10"), ("1", "11")]
TURN = [("0", "10"), ("10", "11"), ("11", "0")]
SWAP = [("0", "1"), ("1", "0")]
SHUFFLE = [("0", "0"), ("10", "11"), ("11", "10")]
DRAWN_SHUFFLE = [("00", "0"), ("01", "11"), ("1", "10")]
LOOPS = [pairs for pairs in SMALL + FOUR if is_loop(Edit(pairs))]
LARGER = some_loops(31, 5, 80) + some_loops(32, 6, 80) + some_loops(33, 7, 160)
MOMENTS = all_moments(2, 3)


def with_order(many):
    """Return loops with an order and up to seven reduced pairs: turned cuts, seen through other loops."""
    found = [Edit(pairs) for pairs in LOOPS if order(Edit(pairs)) is not None]
    through = [Edit(pairs) for pairs in some_loops(34, 4, 30) + some_loops(35, 6, 30)]
    for k, (turns, n) in enumerate(product(range(7), range(1, 8))):
        if turns < n:
            for between in through[k % 3::3]:
                found.append(-between + turn_loop(turns, n) + between)
    found = [edit for edit in found if len(edit) <= 7]
    return found[::max(1, len(found) // many)]


WITH_ORDER = with_order(200)


def turns_told(pairs, moment):
    """Return the rotation that the cycle of a moment tells, None if the moment does not come back."""
    many = back_after(pairs, moment, 20)
    return None if many is None else Fraction(turns_around(pairs, moment, many) % many, many)


class ExampleTest(unittest.TestCase):
    def test_the_example_of_the_document(self):
        grow = Edit([('00', '0'), ('01', '10'), ('1', '11')])
        turn = Edit([('0', '10'), ('10', '11'), ('11', '0')])
        self.assertEqual(
            [rotation(turn), rotation(grow), rotation(Edit([('00', '11'), ('01', '0'), ('1', '10')])),
             rotation(turn_loop(2, 4)), loop_between(turn, -turn)],
            [(1, 3), (0, 1), (0, 1), (1, 2), None])


class IsLoopTest(unittest.TestCase):
    def test_every_small_edit(self):
        for pairs in SMALL + FOUR + LARGER + some_pairs(36, 7, 60):
            edit = Edit(pairs)
            self.assertIs(is_loop(edit), kind_of(edit) != "shuffle")

    def test_how_many_there_are(self):
        self.assertEqual([sum(len(pairs) == many for pairs in LOOPS) for many in (1, 2, 3, 4)], [1, 1, 8, 66])

    def test_edges(self):
        self.assertIs(is_loop(identity()), True)
        self.assertIs(is_loop(Edit(GROW)), True)
        self.assertIs(is_loop(Edit(SWAP)), True)
        self.assertIs(is_loop(Edit(SHUFFLE)), False)
        self.assertIs(is_loop(power(power(Edit(GROW), 12), 12)), True)
        self.assertIs(is_loop(edit=Edit(DRAWN_SHUFFLE)), False)


class RotationTest(unittest.TestCase):
    def check(self, pairs, moments):
        """Compare with what all cycles tell on which one of some moments is; return how many moments that are."""
        edit = Edit(pairs)
        top, bottom = rotation(edit)
        self.assertEqual(gcd(top, bottom), 1)
        self.assertTrue(0 <= top < bottom)
        told = [turns_told(pairs, moment) for moment in moments]
        told = [fraction for fraction in told if fraction is not None]
        self.assertEqual(set(told), {Fraction(top, bottom)} if told else set(), pairs)
        return len(told)

    def test_every_small_loop(self):
        for pairs in LOOPS:
            self.check(pairs, MOMENTS)

    def test_all_cycles_that_draw_and_repel(self):
        found = 0
        for pairs in LOOPS + LARGER:
            edit = Edit(pairs)
            cycles = drawing_cycles(edit) + repelling_cycles(edit)
            moments = [moment for cycle in cycles for moment in cycle]
            self.assertEqual(self.check(pairs, moments), len(moments))
            found += len(moments)
        self.assertGreater(found, 300)

    def test_loops_with_an_order(self):
        found = {}
        for edit in WITH_ORDER:
            self.assertEqual(self.check(edit.pairs, MOMENTS[::9]), len(MOMENTS[::9]))
            self.assertEqual(rotation(edit)[1], order(edit))
            found[rotation(edit)] = True
        self.assertGreater(len(found), 12)

    def test_loops_without_an_order_that_turn(self):
        found = {rotation(Edit(pairs)) for pairs in LOOPS + LARGER if order(Edit(pairs)) is None}
        self.assertTrue({(0, 1), (1, 2), (1, 3), (2, 3), (1, 4), (3, 4)} <= found, found)

    def test_edges(self):
        self.assertEqual(rotation(identity()), (0, 1))
        self.assertEqual(rotation(Edit([("0", "0"), ("1", "1")])), (0, 1))
        self.assertEqual(rotation(Edit(GROW)), (0, 1))
        self.assertEqual(rotation(-Edit(GROW)), (0, 1))
        self.assertEqual(rotation(Edit(SWAP)), (1, 2))
        self.assertEqual(rotation(-Edit(TURN)), (2, 3))

    def test_of_repetitions_and_of_the_inverse(self):
        for pairs in LOOPS[::3] + LARGER[::20]:
            edit = Edit(pairs)
            once = Fraction(*rotation(edit))
            self.assertEqual(Fraction(*rotation(-edit)), -once % 1)
            for k in (2, 3, 4):
                repeated = power(edit, k)
                if len(repeated) <= 7:
                    self.assertEqual(Fraction(*rotation(repeated)), once * k % 1)

    def test_the_same_seen_through_another_loop(self):
        for pairs, others in product(LOOPS[::4], LOOPS[1::9]):
            edit, between = Edit(pairs), Edit(others)
            through = -between + edit + between
            if len(through) <= 7:
                self.assertEqual(rotation(through), rotation(edit))

    def test_edits_that_are_no_loops(self):
        for pairs in [SHUFFLE, DRAWN_SHUFFLE, CLOCK] + [pairs for pairs in FOUR[::20] if not is_loop(Edit(pairs))]:
            edit = Edit(pairs)
            before = edit.pairs
            self.assertIsNone(raised(NoLoop, rotation, edit))
            self.assertEqual(edit.pairs, before)

    def test_by_name(self):
        self.assertEqual(rotation(edit=Edit(TURN)), (1, 3))


class TurnLoopTest(unittest.TestCase):
    def test_all_of_them(self):
        for n in range(1, 13):
            for turns in range(n):
                edit = turn_loop(turns, n)
                told = Fraction(turns, n)
                self.assertNotEqual(kind_of(edit), "shuffle")
                self.assertEqual(power(edit, n), identity())
                for moment in MOMENTS[::6]:
                    self.assertEqual(turns_told(edit.pairs, moment), told)
                self.assertEqual(order(edit), told.denominator)
                self.assertEqual(rotation(edit), (told.numerator, told.denominator))

    def test_edges(self):
        for n in range(1, 13):
            self.assertEqual(turn_loop(0, n), identity())
        self.assertEqual(turn_loop(1, 2), Edit(SWAP))
        self.assertEqual(rotation(turn_loop(11, 12)), (11, 12))
        self.assertEqual(rotation(turn_loop(6, 12)), (1, 2))

    def test_wrong_numbers(self):
        for turns, n, value in [
            (-1, 1, -1), (-1, 0, -1), (-1, 13, -1), (-FAR, -FAR - 1, -FAR), (-2, 5, -2), (0, 0, 0), (5, 0, 0),
            (5, -3, -3), (0, 13, 13), (20, 13, 13), (FAR, FAR - 1, FAR - 1), (1, 1, 1), (12, 12, 12), (7, 5, 7),
            (FAR, 12, FAR),
        ]:
            self.assertEqual(raised(InvalidNumber, turn_loop, turns, n), value, (turns, n))

    def test_by_name(self):
        self.assertEqual(rotation(turn_loop(n=5, turns=2)), (2, 5))


class LoopBetweenTest(unittest.TestCase):
    def check(self, first, second, between):
        self.assertNotEqual(kind_of(between), "shuffle")
        self.assertEqual(Edit(between.pairs), between)
        self.assertEqual(-between + first + between, second)
        for moment in MOMENTS[::8]:
            self.assertEqual(seen_through(first.pairs, between.pairs, moment), moved(second.pairs, moment))

    def test_every_two_loops_with_an_order(self):
        found = {True: 0, False: 0}
        for first, second in product(WITH_ORDER[::4], WITH_ORDER[1::5]):
            between = loop_between(first, second)
            # What comes back and how often it turns is the same however a loop is seen through another one.
            same = rotation(first) == rotation(second)
            self.assertIs(between is not None, same)
            if same:
                self.check(first, second, between)
            found[same] += 1
        self.assertGreater(found[True], 60)
        self.assertGreater(found[False], 60)

    def test_against_all_loops_of_up_to_four_pairs(self):
        edits = [Edit(pairs) for pairs in LOOPS if len(pairs) <= 3 and order(Edit(pairs)) is not None]
        for first in edits:
            seen = [(-between + first + between).pairs for between in [Edit(pairs) for pairs in LOOPS]]
            for second in edits:
                if second.pairs in seen:
                    self.check(first, second, loop_between(first, second))
                if loop_between(first, second) is None:
                    self.assertNotIn(second.pairs, seen)

    def test_loops_seen_through_others(self):
        for pairs, edit in product(LOOPS[::7], WITH_ORDER[::8]):
            through = -Edit(pairs) + edit + Edit(pairs)
            if len(through) <= 7:
                self.check(edit, through, loop_between(edit, through))
                self.check(through, edit, loop_between(through, edit))

    def test_edges(self):
        turn = Edit(TURN)
        self.check(identity(), identity(), loop_between(identity(), identity()))
        self.check(turn, turn, loop_between(turn, turn))
        self.assertIsNone(loop_between(identity(), turn))
        self.assertIsNone(loop_between(turn, identity()))
        self.assertIsNone(loop_between(turn, -turn))
        self.assertIsNone(loop_between(turn_loop(1, 7), turn_loop(2, 7)))
        self.assertIsNone(loop_between(turn_loop(1, 4), turn_loop(1, 2)))
        self.check(turn_loop(2, 4), turn_loop(3, 6), loop_between(turn_loop(2, 4), turn_loop(3, 6)))

    def test_wrong_edits(self):
        grow, turn, drawn, shuffle = Edit(GROW), Edit(TURN), Edit(DRAWN_SHUFFLE), Edit(SHUFFLE)
        for first, second in [(shuffle, turn), (turn, shuffle), (drawn, turn), (turn, drawn), (shuffle, drawn),
                              (grow, shuffle), (shuffle, grow), (grow, drawn), (drawn, grow), (identity(), drawn)]:
            self.assertIsNone(raised(NoLoop, loop_between, first, second))
        for first, second in [(grow, turn), (turn, grow), (grow, grow), (grow, identity()), (identity(), -grow)]:
            self.assertIsNone(raised(NoOrder, loop_between, first, second))
        self.assertEqual((grow.pairs, turn.pairs), (GROW, TURN))

    def test_by_name(self):
        first, second = turn_loop(1, 3), Edit(TURN)
        self.check(first, second, loop_between(second=second, first=first))


if __name__ == "__main__":
    unittest.main()
