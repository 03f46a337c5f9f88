import unittest
from fractions import Fraction
from itertools import product

from halfcuts.edits import Edit, identity, power
from halfcuts.errors import InvalidMoment, InvalidNumber
from halfcuts.fates import drawing_cycles, fate, pull, repelling_cycles, returning, shares
from halfcuts.moments import is_before, moments_at, plain
from halfcuts.orders import order
from tests.plainly import CLOCK, FOUR, LONG_CYCLES, SMALL, agreement, back_after, draws, moved, piece_moved, some_pairs
from tests.plainly import way_of
from tests.samples import NO_MOMENTS, all_moments, raised, start_of

FAR = 10 ** 30
GROW = [("00", "0"), ("01", "10"), ("1", "11")]
HALF = [("00", "01"), ("01", "00"), ("100", "10"), ("101", "110"), ("11", "111")]
# 0w is taken to 1w, and 1w to 0 and what grow takes w to.
TWO = [("0", "1"), ("100", "00"), ("101", "010"), ("11", "011")]
LARGER = some_pairs(21, 5, 60) + some_pairs(22, 6, 60) + some_pairs(23, 7, 120) + LONG_CYCLES
MOMENTS = [("", "0"), ("", "1"), ("1", "0"), ("", "01"), ("0", "01"), ("0110", "001"), ("10", "11010"), ("0010", "1"),
           ("11", "01"), ("", "0011")]
LONG_MOMENTS = [("01" * 30, "001011010001"), ("0" * 60, "1"), ("1" * 60, "000000000001"), ("10" * 30, "111111111111")]


class ExampleTest(unittest.TestCase):
    def test_the_example_of_the_document(self):
        grow = Edit([('00', '0'), ('01', '10'), ('1', '11')])
        half = Edit([('00', '01'), ('01', '00'), ('100', '10'), ('101', '110'), ('11', '111')])
        self.assertEqual(
            [fate(grow, ('', '01')), fate(grow, ('', '0')), pull(grow, ('', '0')), drawing_cycles(grow),
             repelling_cycles(grow), shares(half), returning(grow, 1)],
            [('drawn', [('', '1')]), ('back', 1), 1, [[('', '1')]], [[('', '0')]], ((1, 2), [(1, 2)]),
             ([], [('', '0'), ('', '1')])])


class FateTest(unittest.TestCase):
    def check(self, pairs, moment, steps=300):
        edit = Edit(pairs)
        kind, what = fate(edit, moment)
        if kind == "back":
            self.assertEqual(back_after(pairs, moment), what, (pairs, moment))
            return kind
        self.assertEqual(kind, "drawn")
        way = way_of(pairs, moment, steps)
        self.assertEqual(way.index(way[-1]), steps)
        self.check_cycle(pairs, what)
        self.assertIn(from_least(what), drawing_cycles(edit))
        # [10]: the more rounds, the more places are those of the limit.
        last = steps // len(what)
        near = [agreement(way[count * len(what)], what[0]) for count in (last // 2, last)]
        self.assertGreater(near[1], max(min(near[0], 399), 10), (pairs, moment))
        for index in range(min(len(what), steps - (last - 1) * len(what))):
            self.assertGreater(agreement(way[(last - 1) * len(what) + index], what[index]), 10, (pairs, moment))
        return kind

    def check_cycle(self, pairs, cycle):
        for index, moment in enumerate(cycle):
            self.assertEqual(moved(pairs, moment), cycle[(index + 1) % len(cycle)])
            self.assertEqual(plain(moment), moment)
        self.assertEqual(len(set(cycle)), len(cycle))

    def test_every_small_edit(self):
        kinds = [self.check(pairs, moment, 120) for pairs in SMALL for moment in all_moments(2, 2) + MOMENTS]
        self.assertGreater(kinds.count("back"), 100)
        self.assertGreater(kinds.count("drawn"), 100)

    def test_edits_of_four_pairs(self):
        for pairs, moment in product(FOUR[::6], MOMENTS[2:]):
            self.check(pairs, moment, 150)

    def test_larger_edits(self):
        for pairs, moment in product(LARGER[::2], MOMENTS[4:7]):
            self.check(pairs, moment)

    def test_long_cycles(self):
        for pairs, moment in product(LONG_CYCLES, MOMENTS[:5] + LONG_MOMENTS):
            self.check(pairs, moment, 1500)

    def test_long_moments(self):
        for pairs, moment in product(SMALL + LARGER[::40], LONG_MOMENTS):
            self.check(pairs, moment, 400)

    def test_moments_of_cycles(self):
        for pairs in SMALL + FOUR[::4] + LARGER:
            edit = Edit(pairs)
            for cycle in drawing_cycles(edit) + repelling_cycles(edit):
                for head, ring in cycle:
                    self.assertEqual(fate(edit, (head, ring)), ("back", len(cycle)))
                    self.assertEqual(fate(edit, (head + ring + ring[:1], ring[1:] + ring[:1])), ("back", len(cycle)))

    def test_the_cycle_begins_with_the_limit(self):
        two = Edit(TWO)
        self.assertEqual(drawing_cycles(two), [[("0", "1"), ("", "1")]])
        self.assertEqual(fate(two, ("0", "01")), ("drawn", [("0", "1"), ("", "1")]))
        self.assertEqual(fate(two, ("1", "01")), ("drawn", [("", "1"), ("0", "1")]))
        self.assertEqual(fate(two, ("0" * 60, "01")), ("drawn", [("0", "1"), ("", "1")]))
        self.assertEqual(fate(two, ("1" + "0" * 59, "01")), ("drawn", [("", "1"), ("0", "1")]))
        self.assertEqual(fate(two, ("", "0")), ("back", 2))
        self.assertEqual(fate(two, ("1", "0")), ("back", 2))

    def test_next_moments_have_the_next_limits(self):
        for pairs, moment in product(SMALL + FOUR[::30] + LARGER[::5], MOMENTS):
            edit = Edit(pairs)
            kind, what = fate(edit, moment)
            following = what if kind == "back" else what[1:] + what[:1]
            self.assertEqual(fate(edit, moved(pairs, moment)), (kind, following))

    def test_moments_that_are_not_plain(self):
        grow = Edit(GROW)
        for moment in [("0", "0"), ("0000", "00"), ("0" * 60, "0" * 12)]:
            self.assertEqual(fate(grow, moment), ("back", 1))
            self.assertEqual(pull(grow, moment), 1)
        self.assertEqual(fate(grow, ("0", "10")), ("drawn", [("", "1")]))
        self.assertEqual(fate(Edit(CLOCK), ("1" * 60, "1" * 12)), ("back", 64))

    def test_moments_that_are_returned(self):
        far = moments_at(1, 9941)[0]
        for pairs in [GROW, HALF, TWO] + LONG_CYCLES:
            edit = Edit(pairs)
            expected = fate(edit, edit(far))
            kind, what = fate(edit, far)
            self.assertEqual((kind, what if kind == "back" else what[1:] + what[:1]), expected)
        moment = ("", "01")
        for _ in range(100):
            moment = (-Edit(GROW))(moment)
        self.assertEqual(fate(Edit(GROW), moment), ("drawn", [("", "1")]))
        self.assertEqual(fate(-Edit(GROW), moment), ("drawn", [("", "0")]))

    def test_the_identity(self):
        for moment in MOMENTS + LONG_MOMENTS:
            self.assertEqual(fate(identity(), moment), ("back", 1))
            self.assertEqual(pull(identity(), moment), 0)

    def test_new_lists(self):
        edit = Edit(TWO)
        fate(edit, ("0", "01"))[1].clear()
        self.assertEqual(fate(edit, ("0", "01")), ("drawn", [("0", "1"), ("", "1")]))

    def test_wrong_moments(self):
        for moment in NO_MOMENTS:
            for call in [fate, pull]:
                self.assertEqual(raised(InvalidMoment, call, Edit(GROW), moment), moment)
                self.assertEqual(raised(InvalidMoment, call, identity(), moment), moment)

    def test_by_name(self):
        self.assertEqual(fate(moment=("", "0"), edit=Edit(GROW)), ("back", 1))
        self.assertEqual(pull(moment=("", "0"), edit=Edit(GROW)), 1)


def from_least(cycle):
    least = cycle[0]
    for moment in cycle:
        if is_before(moment, least):
            least = moment
    start = cycle.index(least)
    return cycle[start:] + cycle[:start]


class PullTest(unittest.TestCase):
    def expected(self, pairs, moment):
        many = back_after(pairs, moment)
        if many is None:
            return None
        total = 0
        for place in way_of(pairs, moment, many - 1):
            [(source, target)] = [pair for pair in pairs if start_of(place, 30).startswith(pair[0])]
            total += len(source) - len(target)
        return total

    def test_every_small_edit(self):
        for pairs, moment in product(SMALL + FOUR[::8], all_moments(2, 2)):
            self.assertEqual(pull(Edit(pairs), moment), self.expected(pairs, moment), (pairs, moment))

    def test_moments_of_cycles(self):
        for pairs in LARGER:
            edit = Edit(pairs)
            for cycle in drawing_cycles(edit):
                for moment in cycle:
                    self.assertEqual(pull(edit, moment), self.expected(edit.pairs, moment))
                    self.assertLess(pull(edit, moment), 0)
            for cycle in repelling_cycles(edit):
                for moment in cycle:
                    self.assertEqual(pull(edit, moment), self.expected(edit.pairs, moment))
                    self.assertGreater(pull(edit, moment), 0)

    def test_edges(self):
        grow = Edit(GROW)
        self.assertEqual(pull(grow, ("", "1")), -1)
        self.assertEqual(pull(-grow, ("", "1")), 1)
        self.assertIsNone(pull(grow, ("", "01")))
        self.assertEqual(pull(Edit(CLOCK), ("", "01")), 0)
        self.assertEqual(pull(power(grow, 3), ("", "0")), 3)


class CyclesTest(unittest.TestCase):
    def found_plainly(self, pairs, moments):
        """Return the least moments of the drawing and of the repelling cycles on which some of the moments are."""
        drawing, repelling = set(), set()
        back = sorted((target, source) for source, target in pairs)
        for moment in moments:
            many = back_after(pairs, moment, 20)
            if many is not None:
                least = from_least(way_of(pairs, moment, many - 1))[0]
                if draws(pairs, moment, many):
                    drawing.add(least)
                if draws(back, moment, many):
                    repelling.add(least)
        return drawing, repelling

    def check_small(self, pairs, moments):
        edit = Edit(pairs)
        drawing, repelling = self.found_plainly(pairs, moments)
        self.assertEqual({cycle[0] for cycle in drawing_cycles(edit)}, drawing, pairs)
        self.assertEqual({cycle[0] for cycle in repelling_cycles(edit)}, repelling, pairs)

    def test_every_small_edit(self):
        for pairs in SMALL:
            self.check_small(pairs, all_moments(3, 3))

    def test_edits_of_four_pairs(self):
        moments = all_moments(4, 3)
        for pairs in FOUR[::7]:
            self.check_small(pairs, moments)

    def test_each_cycle_is_one(self):
        found = 0
        for pairs in SMALL + FOUR[::2] + LARGER:
            edit = Edit(pairs)
            back = sorted((target, source) for source, target in edit.pairs)
            for cycles, way in [(drawing_cycles(edit), edit.pairs), (repelling_cycles(edit), back)]:
                for cycle in cycles:
                    found += 1
                    self.assertEqual(from_least(cycle), cycle)
                    self.assertEqual(len(set(cycle)), len(cycle))
                    for index, moment in enumerate(cycle):
                        self.assertEqual(plain(moment), moment)
                        self.assertEqual(moved(pairs, moment), cycle[(index + 1) % len(cycle)])
                    self.assertIs(draws(way, cycle[0], len(cycle)), True)
                firsts = [cycle[0] for cycle in cycles]
                self.assertTrue(all(is_before(low, high) for low, high in zip(firsts, firsts[1:])))
        self.assertGreater(found, 300)

    def test_none_with_an_order_and_some_without(self):
        for pairs in SMALL + FOUR + LARGER:
            edit = Edit(pairs)
            self.assertIs(drawing_cycles(edit) == [], order(edit) is not None)
            self.assertIs(repelling_cycles(edit) == [], order(edit) is not None)

    def test_repelling_cycles_are_drawing_cycles_of_the_inverse(self):
        for pairs in SMALL + FOUR[::3] + LARGER:
            edit = Edit(pairs)
            other = [from_least(cycle[::-1]) for cycle in drawing_cycles(-edit)]
            self.assertEqual(repelling_cycles(edit), other)
            other = [from_least(cycle[::-1]) for cycle in repelling_cycles(-edit)]
            self.assertEqual(drawing_cycles(edit), other)

    def test_alike_edits_have_as_many_of_each_length(self):
        for pairs, others in product(SMALL[2:] + FOUR[::60], SMALL[1::5]):
            edit, other = Edit(pairs), Edit(others)
            alike = -other + edit + other
            for cycles in [drawing_cycles, repelling_cycles]:
                self.assertEqual(sorted(map(len, cycles(alike))), sorted(map(len, cycles(edit))))
                moved_ones = [from_least([other(moment) for moment in cycle]) for cycle in cycles(edit)]
                self.assertCountEqual(cycles(alike), moved_ones)

    def test_edges(self):
        self.assertEqual(drawing_cycles(identity()), [])
        self.assertEqual(repelling_cycles(identity()), [])
        two = Edit(TWO)
        self.assertEqual(drawing_cycles(two), [[("0", "1"), ("", "1")]])
        self.assertEqual(repelling_cycles(two), [[("", "0"), ("1", "0")]])
        self.assertEqual([len(cycle) for cycle in drawing_cycles(Edit(LONG_CYCLES[2]))], [16])
        self.assertEqual([len(cycle) for cycle in repelling_cycles(Edit(LONG_CYCLES[3]))], [16])

    def test_new_lists_and_names(self):
        two = Edit(TWO)
        for call in [drawing_cycles, repelling_cycles]:
            expected = call(two)
            found = call(edit=two)
            self.assertEqual(found, expected)
            found[0].clear()
            found.clear()
            self.assertEqual(call(two), expected)


class SharesTest(unittest.TestCase):
    def bounds(self, pairs):
        """Return the share that surely comes back, those surely drawn to each cycle, and the share not told yet."""
        cycles = drawing_cycles(Edit(pairs))
        back, drawn, rest = Fraction(0), [Fraction(0) for _ in cycles], Fraction(0)
        work = [""]
        while work:
            word = work.pop()
            end = self.end_of(pairs, word, cycles)
            if end == "back":
                back += Fraction(1, 2 ** len(word))
            elif end is not None:
                drawn[end] += Fraction(1, 2 ** len(word))
            elif len(word) < 26:
                work.extend([word + "0", word + "1"])
            else:
                rest += Fraction(1, 2 ** len(word))
        return back, drawn, rest

    def end_of(self, pairs, word, cycles):
        """Return whether a piece comes back whole, or the number of the cycle to which it is drawn, if it is told."""
        goal = word
        for _ in range(600):
            goal = piece_moved(pairs, goal)
            if goal is None:
                return None
            if goal == word:
                return "back"
            for number, cycle in enumerate(cycles):
                # Near enough that it stays there: no edit of the tests is settled by more than six halvings.
                if any(len(goal) > 12 and goal[:12] == start_of(moment, 12) for moment in cycle):
                    return number
        raise AssertionError((pairs, word))

    def check(self, pairs):
        back, drawn, rest = self.bounds(pairs)
        found, others = shares(Edit(pairs))
        self.assertEqual(len(others), len(drawn))
        self.assertLess(rest, Fraction(1, 10 ** 5))
        for (top, bottom), least in zip([found] + others, [back] + drawn):
            self.assertEqual(Fraction(top, bottom).denominator, bottom)
            self.assertLessEqual(least, Fraction(top, bottom), pairs)
            self.assertLessEqual(Fraction(top, bottom), least + rest, pairs)
        self.assertEqual(sum([Fraction(*part) for part in [found] + others]), 1)

    def test_every_small_edit(self):
        for pairs in SMALL:
            self.check(pairs)

    def test_larger_edits(self):
        for pairs in FOUR[::10] + LARGER[::4] + LONG_CYCLES:
            self.check(Edit(pairs).pairs)

    def test_edges(self):
        self.assertEqual(shares(identity()), ((1, 1), []))
        self.assertEqual(shares(Edit(CLOCK)), ((1, 1), []))
        self.assertEqual(shares(Edit(GROW)), ((0, 1), [(1, 1)]))
        self.assertEqual(shares(Edit(TWO)), ((0, 1), [(1, 1)]))

    def test_shares_that_no_cut_has(self):
        # What stays near a repelling cycle in each round is a quarter, an eighth .. of what was there.
        for pairs, expected in [
            ([("0000", "011"), ("0001", "00"), ("001", "10"), ("01", "010"), ("1", "11")],
             ((0, 1), [(1, 3), (2, 3)])),
            ([("00", "000"), ("01000", "001"), ("01001", "01"), ("0101", "10"), ("011", "110"), ("1", "111")],
             ((0, 1), [(2, 7), (5, 7)])),
            ([("0", "0"), ("10", "100"), ("1100", "101"), ("11010", "110"), ("11011", "1110"), ("111", "1111")],
             ((1, 2), [(1, 3), (1, 6)])),
            ([("00", "000"), ("010", "0010"), ("011000", "0011"), ("011001", "01"), ("01101", "10"), ("0111", "110"),
              ("1", "111")],
             ((0, 1), [(2, 5), (3, 5)])),
            ([("0", "00"), ("100000", "01"), ("100001", "10"), ("10001", "110"), ("1001", "11100"), ("101", "11101"),
              ("11", "1111")],
             ((0, 1), [(31, 60), (29, 60)])),
        ]:
            self.assertEqual(shares(Edit(pairs)), expected)
            self.check(pairs)

    def test_new_lists_and_names(self):
        half = Edit(HALF)
        shares(edit=half)[1].clear()
        self.assertEqual(shares(half), ((1, 2), [(1, 2)]))


class ReturningTest(unittest.TestCase):
    def check(self, pairs, moments, most):
        edit = Edit(pairs)
        backs = [(moment, back_after(pairs, moment)) for moment in moments]
        for many in range(1, most + 1):
            pieces, single = returning(edit, many)
            for moment, back in backs:
                start = start_of(moment, 20)
                told = any(start.startswith(piece) for piece in pieces) or plain(moment) in single
                self.assertIs(told, back == many, (pairs, moment, many))
            self.check_lists(pairs, pieces, single, many)

    def check_lists(self, pairs, pieces, single, many):
        """As few pieces as possible, and the moments outside of them, both ascending."""
        self.assertEqual(pieces, sorted(pieces))
        for low, high in zip(pieces, pieces[1:]):
            self.assertFalse(high.startswith(low))
            self.assertFalse(low[:-1] == high[:-1] and low[-1:] == "0" and high[-1:] == "1")
        for low, high in zip(single, single[1:]):
            self.assertIs(is_before(low, high), True)
        for moment in single:
            self.assertEqual(plain(moment), moment)
            self.assertEqual(back_after(pairs, moment), many)
            self.assertFalse(any(start_of(moment, 20).startswith(piece) for piece in pieces))

    def test_every_small_edit(self):
        for pairs in SMALL:
            self.check(pairs, all_moments(3, 2), 6)

    def test_edits_of_four_pairs(self):
        for pairs in FOUR[::9]:
            self.check(pairs, all_moments(4, 1), 8)

    def test_larger_edits(self):
        for pairs in LARGER[::12] + LONG_CYCLES:
            self.check(pairs, all_moments(3, 1) + MOMENTS, 66)

    def test_halves_of_other_cycles_are_joined(self):
        swaps = Edit([("000", "001"), ("001", "000"), ("010", "011"), ("011", "010"), ("1", "1")])
        self.assertEqual(returning(swaps, 2), (["0"], []))
        self.assertEqual(returning(swaps, 1), (["1"], []))
        crossed = Edit([("00", "10"), ("10", "00"), ("01", "11"), ("11", "01")])
        self.assertEqual(returning(crossed, 2), ([""], []))
        self.assertEqual(returning(Edit(CLOCK), 64), ([""], []))
        self.assertEqual(returning(identity(), 1), ([""], []))

    def test_pieces_and_moments(self):
        self.assertEqual(returning(Edit(HALF), 2), (["0"], []))
        self.assertEqual(returning(Edit(HALF), 1), ([], [("1", "0"), ("", "1")]))
        self.assertEqual(returning(Edit(TWO), 2), ([], [("", "0"), ("0", "1"), ("1", "0"), ("", "1")]))

    def test_numbers_for_which_none_comes_back(self):
        for many in [2, 3, 7, 1000, 10 ** 6, FAR]:
            self.assertEqual(returning(Edit(GROW), many), ([], []))
            self.assertEqual(returning(identity(), many), ([], []))
        for many in [1, 2, 32, 63, 65, 128]:
            self.assertEqual(returning(Edit(CLOCK), many), ([], []))

    def test_wrong_numbers(self):
        for many in [0, -1, -FAR]:
            self.assertEqual(raised(InvalidNumber, returning, Edit(GROW), many), many)
            self.assertEqual(raised(InvalidNumber, returning, identity(), many), many)

    def test_new_lists_and_names(self):
        half = Edit(HALF)
        for many in (1, 2):
            expected = returning(half, many)
            pieces, single = returning(n=many, edit=half)
            pieces.append("x")
            single.append("x")
            self.assertEqual(returning(half, many), expected)


if __name__ == "__main__":
    unittest.main()
