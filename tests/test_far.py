import unittest
from fractions import Fraction
from itertools import product

from halfcuts.edits import Edit, identity, power
from halfcuts.errors import InvalidMoment, InvalidNumber, InvalidWord
from halfcuts.far import first_visit, letters_after, share, visits
from halfcuts.fates import drawing_cycles, fate, repelling_cycles
from halfcuts.moments import letters, moments_at
from tests.plainly import CLOCK, FOUR, LONG_CYCLES, SMALL, moved, some_pairs, way_of
from tests.samples import NO_MOMENTS, NO_WORDS, all_moments, all_words, raised, start_of

FAR = 10 ** 30
GROW = [("00", "0"), ("01", "10"), ("1", "11")]
FOUR_TIMES = [("0", "1"), ("10", "01"), ("11", "00")]
# 0w is taken to 1w, and 1w to 0 and what grow takes w to.
TWO = [("0", "1"), ("100", "00"), ("101", "010"), ("11", "011")]
LARGER = some_pairs(31, 5, 20) + some_pairs(32, 6, 20) + some_pairs(33, 7, 60) + LONG_CYCLES
MOMENTS = [("", "0"), ("", "1"), ("", "01"), ("0110", "001"), ("10", "11010"), ("0010", "1"), ("11", "01")]
LONG_MOMENTS = [("01" * 30, "001011010001"), ("0" * 60, "1"), ("1" * 60, "000000000001"), ("10" * 30, "111111111111")]
PIECES = ["", "0", "1", "01", "110", "0011", "10" * 4]


class ExampleTest(unittest.TestCase):
    def test_the_example_of_the_document(self):
        grow = Edit([('00', '0'), ('01', '10'), ('1', '11')])
        four = Edit([('0', '1'), ('10', '01'), ('11', '00')])
        self.assertEqual(
            [letters_after(grow, ('', '01'), 10 ** 29, 10 ** 29 - 1, 10 ** 29 + 4),
             visits(grow, ('', '01'), '1', 10 ** 30) == 10 ** 30 - 1, share(grow, ('', '01'), '1'),
             visits(four, ('', '0'), '0', 10), first_visit(four, ('', '0'), '11')],
            ['10010', True, (1, 1), 5, 3])


class LettersAfterTest(unittest.TestCase):
    def test_near_repetitions(self):
        for pairs, moment in product(SMALL + FOUR[::9] + LARGER, MOMENTS):
            edit = Edit(pairs)
            for n, now in enumerate(way_of(pairs, moment, 25)):
                self.assertEqual(letters_after(edit, moment, n, 0, 40), start_of(now, 40), (pairs, moment, n))
            self.assertEqual(letters_after(edit, moment, 25, 33, 66), start_of(now, 66)[33:])

    def test_long_moments(self):
        for pairs, moment in product(LARGER[::3] + LONG_CYCLES, LONG_MOMENTS):
            edit = Edit(pairs)
            way = way_of(pairs, moment, 400)
            for n in [0, 1, 2, 50, 127, 128, 211, 399, 400]:
                for low in [0, 5, 60, 300]:
                    self.assertEqual(letters_after(edit, moment, n, low, low + 90), start_of(way[n], low + 90)[low:])

    def test_far_repetitions_of_grow(self):
        # One more 1 in front each time, and behind them what 01 .. becomes.
        grow = Edit(GROW)
        for n in [1, 2, 100, 10 ** 6, 10 ** 29, FAR]:
            for low in [max(0, n - 100), n, n + 1, 0, n // 2, FAR]:
                many = 200
                expected = ["1" if place < n else "0" if place == n else "01"[(place - n - 1) % 2]
                            for place in range(low, low + many)]
                self.assertEqual(letters_after(grow, ("", "01"), n, low, low + many), "".join(expected))
        # Of sixty 0s each time one goes, until the last one is moved on.
        self.assertEqual(letters_after(grow, ("0" * 60, "1"), FAR, FAR - 61, FAR - 57), "1101")

    def test_far_repetitions_that_draw_two_moments(self):
        # Every two times one more 1 behind the first sign, which is 0 after an even number of times.
        two = Edit(TWO)
        for n in [10 ** 29, FAR, FAR - 2]:
            self.assertEqual(letters_after(two, ("0", "01"), n, 0, 5), "01111")
            self.assertEqual(letters_after(two, ("0", "01"), n, n // 2, n // 2 + 6), "100101")
            self.assertEqual(letters_after(two, ("0", "01"), n + 1, n // 2, n // 2 + 6), "100101")
            self.assertEqual(letters_after(two, ("0", "01"), n + 1, 0, 5), "11111")

    def test_far_repetitions_of_what_comes_back(self):
        four, clock = Edit(FOUR_TIMES), Edit(CLOCK)
        for n in [FAR, FAR - 1, FAR - 2, FAR - 3, 10 ** 29 + 7]:
            for moment in MOMENTS + LONG_MOMENTS:
                near = way_of(FOUR_TIMES, moment, n % 4)[-1]
                self.assertEqual(letters_after(four, moment, n, 0, 80), start_of(near, 80))
                near = way_of(CLOCK, moment, n % 64)[-1]
                self.assertEqual(letters_after(clock, moment, n, FAR, FAR + 20), letters(near, FAR, FAR + 20))
        for pairs in SMALL + LARGER:
            edit = Edit(pairs)
            for cycle in drawing_cycles(edit) + repelling_cycles(edit):
                for n in [FAR, FAR + 1, 10 ** 29 + 12345]:
                    now = cycle[n % len(cycle)]
                    self.assertEqual(letters_after(edit, cycle[0], n, 0, 50), start_of(now, 50))
                    self.assertEqual(letters_after(edit, cycle[0], n, FAR, FAR + 9), letters(now, FAR, FAR + 9))

    def test_the_n_th_repetition_is_one_less_of_the_next_moment(self):
        for pairs, moment in product(SMALL + FOUR[::40] + LARGER, MOMENTS[2:5] + LONG_MOMENTS[:1]):
            edit = Edit(pairs)
            following = moved(pairs, moment)
            for n in [1, 10, 500, 10 ** 9, FAR - 1, FAR]:
                for low in [0, n // 3, max(0, n - 20), n, FAR]:
                    first = letters_after(edit, moment, n, low, low + 30)
                    self.assertEqual(first, letters_after(edit, following, n - 1, low, low + 30))

    def test_repetitions_of_powers(self):
        for pairs, moment in product(SMALL, MOMENTS):
            edit = Edit(pairs)
            double = power(edit, 2)
            if len(double) <= 7:
                for n in [0, 1, 7, 10 ** 20, 5 * 10 ** 29]:
                    for low in [0, n]:
                        first = letters_after(double, moment, n, low, low + 20)
                        self.assertEqual(first, letters_after(edit, moment, 2 * n, low, low + 20))

    def test_far_repetitions_come_near_the_limit(self):
        for pairs, moment in product(LARGER, MOMENTS[2:5]):
            edit = Edit(pairs)
            kind, what = fate(edit, moment)
            if kind == "drawn":
                for n in [10 ** 29, 10 ** 29 + 1, FAR - 7]:
                    limit = what[n % len(what)]
                    self.assertEqual(letters_after(edit, moment, n, 0, 200), start_of(limit, 200))
                    self.assertEqual(letters_after(edit, moment, n, 10 ** 25, 10 ** 25 + 50),
                                     letters(limit, 10 ** 25, 10 ** 25 + 50))

    def test_edges(self):
        for edit in [Edit(GROW), identity(), Edit(CLOCK)]:
            self.assertEqual(letters_after(edit, ("", "01"), 0, 0, 6), "010101")
            self.assertEqual(letters_after(edit, ("", "01"), FAR, FAR, FAR), "")
            self.assertEqual(letters_after(edit, ("0", "1010"), 0, FAR, FAR + 3), "010")
        far = moments_at(1, 9941)[0]
        self.assertEqual(letters_after(Edit(GROW), far, 3, 0, 100), start_of(way_of(GROW, far, 3)[-1], 100))

    def test_wrong_arguments_in_their_order(self):
        grow = Edit(GROW)
        for moment in NO_MOMENTS:
            self.assertEqual(raised(InvalidMoment, letters_after, grow, moment, -1, -2, -3), moment)
            self.assertEqual(raised(InvalidMoment, letters_after, identity(), moment, 1, 0, 1), moment)
        for number in [-1, -FAR]:
            self.assertEqual(raised(InvalidNumber, letters_after, grow, ("", "0"), number, -2, -3), number)
            self.assertEqual(raised(InvalidNumber, letters_after, grow, ("", "0"), number, 0, 1), number)
            self.assertEqual(raised(InvalidNumber, letters_after, grow, ("", "0"), 0, number, -3), number)
        for low, high in [(1, 0), (0, -1), (FAR, FAR - 1), (7, -FAR)]:
            self.assertEqual(raised(InvalidNumber, letters_after, grow, ("", "0"), 0, low, high), high)

    def test_by_name(self):
        self.assertEqual(letters_after(high=4, low=1, n=2, moment=("", "01"), edit=Edit(GROW)), "100")


class VisitsTest(unittest.TestCase):
    def test_near_repetitions(self):
        for pairs, moment in product(SMALL + FOUR[::12] + LARGER, MOMENTS):
            edit = Edit(pairs)
            starts = [start_of(now, 10) for now in way_of(pairs, moment, 90)]
            for piece in PIECES:
                hits = [start.startswith(piece) for start in starts]
                for n in [0, 1, 2, 9, 40, 90]:
                    self.assertEqual(visits(edit, moment, piece, n), sum(hits[:n]), (pairs, moment, piece, n))

    def test_long_moments_and_pieces(self):
        for pairs, moment in product(LARGER[::6] + LONG_CYCLES, LONG_MOMENTS):
            edit = Edit(pairs)
            way = way_of(pairs, moment, 700)
            for seen in [0, 1, 150, 300, 699]:
                for many in [1, 7, 40]:
                    piece = start_of(way[seen], many)
                    hits = [start_of(now, 40).startswith(piece) for now in way]
                    for n in [seen, seen + 1, 350, 700]:
                        self.assertEqual(visits(edit, moment, piece, n), sum(hits[:n]))
                    self.assertEqual(first_visit(edit, moment, piece), hits.index(True))

    def test_far_repetitions(self):
        for pairs, moment in product(SMALL + FOUR[::40] + LARGER, MOMENTS[2:5] + LONG_MOMENTS[:1]):
            edit = Edit(pairs)
            for piece in ["", "1", "00", "110"]:
                for n in [10 ** 29, FAR - 1]:
                    more = visits(edit, moment, piece, n + 1) - visits(edit, moment, piece, n)
                    self.assertEqual(more == 1, letters_after(edit, moment, n, 0, len(piece)) == piece)
                    self.assertIn(more, (0, 1))

    def test_halves_and_wholes(self):
        for pairs, moment in product(SMALL + LARGER, MOMENTS):
            edit = Edit(pairs)
            self.assertEqual(visits(edit, moment, "", FAR), FAR)
            for piece in ["", "0", "101"]:
                halves = [visits(edit, moment, piece + sign, FAR) for sign in "01"]
                self.assertEqual(sum(halves), visits(edit, moment, piece, FAR))

    def test_edges(self):
        grow = Edit(GROW)
        self.assertEqual(visits(grow, ("", "0"), "0" * 40, FAR), FAR)
        self.assertEqual(visits(grow, ("0" * 60, "1"), "0", FAR), 60)
        self.assertEqual(visits(grow, ("0" * 60, "1"), "1" * 40, FAR), FAR - 99)
        self.assertEqual(visits(grow, ("0" * 60, "1"), "1" * 40, 99), 0)
        self.assertEqual(visits(grow, ("0" * 60, "1"), "1" * 40, 100), 1)
        self.assertEqual(visits(Edit(CLOCK), ("", "01"), "0", 64 * 10 ** 28), 32 * 10 ** 28)
        self.assertEqual(visits(identity(), ("", "01"), "01", FAR), FAR)
        self.assertEqual(visits(identity(), ("", "01"), "00", FAR), 0)
        self.assertEqual(visits(grow, ("0", "10"), "01", FAR), 1)

    def test_by_name(self):
        self.assertEqual(visits(n=10, piece="0", moment=("", "0"), edit=Edit(FOUR_TIMES)), 5)
        self.assertEqual(first_visit(piece="11", moment=("", "0"), edit=Edit(FOUR_TIMES)), 3)
        self.assertEqual(share(piece="0", moment=("", "0"), edit=Edit(FOUR_TIMES)), (1, 2))


class FirstVisitTest(unittest.TestCase):
    def test_near_repetitions(self):
        for pairs, moment in product(SMALL + FOUR[::12] + LARGER, MOMENTS):
            edit = Edit(pairs)
            starts = [start_of(now, 10) for now in way_of(pairs, moment, 150)]
            for piece in PIECES:
                hits = [start.startswith(piece) for start in starts]
                found = first_visit(edit, moment, piece)
                # Cycles have at most 64 moments, and these moments are near one after far fewer than 80 repetitions.
                self.assertEqual(found, hits.index(True) if True in hits else None, (pairs, moment, piece))

    def test_no_visit_before(self):
        for pairs, moment in product(SMALL + LARGER[::4], LONG_MOMENTS):
            edit = Edit(pairs)
            for piece in all_words(3):
                found = first_visit(edit, moment, piece)
                if found is None:
                    self.assertEqual(visits(edit, moment, piece, FAR), 0)
                else:
                    self.assertEqual(visits(edit, moment, piece, found), 0)
                    self.assertEqual(visits(edit, moment, piece, found + 1), 1)

    def test_edges(self):
        grow = Edit(GROW)
        self.assertEqual(first_visit(grow, ("", "01"), ""), 0)
        self.assertEqual(first_visit(grow, ("", "01"), "0101"), 0)
        self.assertEqual(first_visit(grow, ("", "01"), "1" * 40), 40)
        self.assertEqual(first_visit(grow, ("0" * 60, "1"), "1" * 40), 99)
        self.assertIsNone(first_visit(grow, ("", "01"), "00"))
        self.assertEqual(first_visit(Edit(CLOCK), ("", "0"), "1" * 6 + "0" * 34), 63)
        self.assertIsNone(first_visit(identity(), ("", "01"), "1"))


class ShareTest(unittest.TestCase):
    def test_shares_of_cycles(self):
        for pairs, moment in product(SMALL + FOUR[::12] + LARGER, MOMENTS + LONG_MOMENTS[:1]):
            edit = Edit(pairs)
            kind, what = fate(edit, moment)
            around = way_of(pairs, moment, what - 1) if kind == "back" else what
            for piece in PIECES:
                expected = Fraction(sum([start_of(now, 10).startswith(piece) for now in around]), len(around))
                found = share(edit, moment, piece)
                self.assertEqual(found, (expected.numerator, expected.denominator), (pairs, moment, piece))

    def test_it_is_the_limit_of_visits(self):
        for pairs, moment in product(LARGER[::3], MOMENTS[2:5]):
            edit = Edit(pairs)
            for piece in PIECES:
                part = Fraction(visits(edit, moment, piece, FAR), FAR)
                self.assertLess(abs(part - Fraction(*share(edit, moment, piece))), Fraction(1, 10 ** 26))

    def test_edges(self):
        self.assertEqual(share(Edit(GROW), ("", "01"), "0"), (0, 1))
        self.assertEqual(share(Edit(GROW), ("", "01"), "1" * 40), (1, 1))
        self.assertEqual(share(Edit(GROW), ("0", "0"), "0" * 40), (1, 1))
        self.assertEqual(share(Edit(CLOCK), ("", "01"), "0" * 6), (1, 64))
        self.assertEqual(share(Edit(CLOCK), ("", "01"), "011"), (1, 8))
        self.assertEqual(share(Edit(TWO), ("", "01"), "01"), (1, 2))
        self.assertEqual(share(identity(), ("", "01"), "1"), (0, 1))
        self.assertEqual(share(identity(), ("", "01"), ""), (1, 1))


class WrongTest(unittest.TestCase):
    def test_wrong_arguments_in_their_order(self):
        grow = Edit(GROW)
        for moment in NO_MOMENTS:
            self.assertEqual(raised(InvalidMoment, visits, grow, moment, "2", -1), moment)
            self.assertEqual(raised(InvalidMoment, visits, grow, moment, "1", 1), moment)
            self.assertEqual(raised(InvalidMoment, first_visit, grow, moment, "2"), moment)
            self.assertEqual(raised(InvalidMoment, share, grow, moment, "2"), moment)
        for word in NO_WORDS:
            self.assertEqual(raised(InvalidWord, visits, grow, ("", "0"), word, -1), word)
            self.assertEqual(raised(InvalidWord, visits, grow, ("", "0"), word, 1), word)
            self.assertEqual(raised(InvalidWord, first_visit, grow, ("", "0"), word), word)
            self.assertEqual(raised(InvalidWord, share, grow, ("", "0"), word), word)
        for number in [-1, -2, -FAR]:
            self.assertEqual(raised(InvalidNumber, visits, grow, ("", "0"), "", number), number)
            self.assertEqual(raised(InvalidNumber, visits, identity(), ("", "0"), "1", number), number)

    def test_the_edit_stays(self):
        grow = Edit(GROW)
        raised(InvalidNumber, visits, grow, ("", "0"), "", -1)
        visits(grow, ("", "01"), "1", FAR)
        letters_after(grow, ("", "01"), FAR, 0, 10)
        self.assertEqual(grow.pairs, GROW)


class SizeTest(unittest.TestCase):
    def test_far_repetitions_of_hard_edits(self):
        # Long ways away from a repelling cycle of many moments, and long cycles, up to the bounds of [2].
        for pairs in LONG_CYCLES:
            edit = Edit(pairs)
            for cycle in repelling_cycles(edit):
                for head, ring in cycle[:3]:
                    start = (head + ring * 60)[:60]
                    for tail in ["0", "1", "001011010001"]:
                        self.assertEqual(letters_after(edit, (start, tail), FAR, 0, 200),
                                         letters_after(edit, moved(pairs, (start, tail)), FAR - 1, 0, 200))
                        total = sum([visits(edit, (start, tail), word, FAR) for word in all_words(3)[7:]])
                        self.assertEqual(total, FAR)

    def test_every_short_moment_of_small_edits(self):
        for pairs, moment in product(SMALL, all_moments(2, 2)):
            edit = Edit(pairs)
            now = way_of(pairs, moment, 60)[-1]
            self.assertEqual(letters_after(edit, moment, 60, 0, 100), start_of(now, 100))


if __name__ == "__main__":
    unittest.main()
