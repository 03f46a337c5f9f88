import unittest
from fractions import Fraction
from itertools import product

from halfcuts.errors import InvalidMoment, InvalidNumber
from halfcuts.moments import have_common_tail, is_before, letters, moments_at, plain, value
from tests.samples import NO_MOMENTS, all_moments, raised, start_of

FAR = 10 ** 30
LONG = ("01" * 30, "001011010001")
# The longest word with the two rings 01001 and 01001010 that does not tell them apart:
# sequences with rings of p and q signs may agree in p + q - 2 places and differ then.
LIKE_FIVE, LIKE_EIGHT = ("", "01001"), ("", "01001010")


class ExampleTest(unittest.TestCase):
    def test_the_example_of_the_document(self):
        self.assertEqual(
            [plain(('0', '10')), letters(('1', '01'), 0, 6), value(('', '01')), moments_at(1, 2), moments_at(1, 1),
             is_before(('0', '1'), ('1', '0')), have_common_tail(('', '01'), ('1', '01'))],
            [('', '01'), '101010', (1, 3), [('0', '1'), ('1', '0')], [('', '1')], True, True])


class PlainTest(unittest.TestCase):
    def test_every_short_moment(self):
        candidates = sorted(all_moments(3, 4), key=lambda moment: (len(moment[1]), len(moment[0])))
        first_with = {}
        for moment in candidates:
            first_with.setdefault(start_of(moment, 30), moment)
        for moment in candidates:
            self.assertEqual(plain(moment), first_with[start_of(moment, 30)], moment)

    def test_rings_that_repeat_a_shorter_one(self):
        self.assertEqual(plain(("1", "000000000000")), ("1", "0"))
        self.assertEqual(plain(("0", "010101010101")), ("0", "01"))
        self.assertEqual(plain(("1", "011011011011")), ("", "101"))
        self.assertEqual(plain(("", "000100010001")), ("", "0001"))
        self.assertEqual(plain(("", "000001000001")), ("", "000001"))
        self.assertEqual(plain(("", "000001000011")), ("", "000001000011"))

    def test_heads_that_end_as_the_ring_does(self):
        self.assertEqual(plain(("1" * 60, "1")), ("", "1"))
        self.assertEqual(plain(("0" + "1" * 59, "1")), ("0", "1"))
        self.assertEqual(plain(("01" * 30, "01")), ("", "01"))
        self.assertEqual(plain(("1" + "01" * 29 + "0", "10")), ("", "10"))
        self.assertEqual(plain(("001011010001" * 5, "001011010001")), ("", "001011010001"))
        self.assertEqual(plain(("0001" + "001011010001" * 4, "001011010001")), ("", "000100101101"))
        self.assertEqual(plain(("110001" + "001011010001" * 4, "001011010001")), ("1", "100010010110"))

    def test_already_plain(self):
        for moment in [("", "0"), ("0", "1"), ("1", "0"), ("0" * 60, "000000000001"), ("1" * 60, "010000000000")]:
            self.assertEqual(plain(moment), moment)

    def test_long_rings_that_are_returned(self):
        found = moments_at(1, 9941)[0]
        head, ring = found
        self.assertGreater(len(ring), 1000)
        self.assertEqual(plain(found), found)
        self.assertEqual(plain((head + ring[:7], ring[7:] + ring[:7])), found)
        self.assertEqual(plain((ring, ring + ring)), found)

    def test_wrong_moments(self):
        for moment in NO_MOMENTS:
            self.assertEqual(raised(InvalidMoment, plain, moment), moment)

    def test_by_name(self):
        self.assertEqual(plain(moment=("0", "0")), ("", "0"))


class LettersTest(unittest.TestCase):
    def test_every_short_moment(self):
        for moment in all_moments(3, 3):
            start = start_of(moment, 12)
            for low, high in product(range(9), repeat=2):
                if low <= high:
                    self.assertEqual(letters(moment, low, high), start[low:high], (moment, low, high))

    def test_an_empty_range(self):
        for place in [0, 1, 60, 61, FAR]:
            self.assertEqual(letters(LONG, place, place), "")

    def test_across_the_head(self):
        self.assertEqual(letters(LONG, 0, 200), start_of(LONG, 200))
        self.assertEqual(letters(LONG, 58, 76), "01" + "001011010001" + "0010")

    def test_places_far_behind(self):
        ring = LONG[1]
        for low in [FAR, FAR - 1, FAR - 200, 10 ** 29 + 7]:
            first = (low - 60) % 12
            self.assertEqual(letters(LONG, low, low + 200), (ring * 18)[first:first + 200])
        self.assertEqual(letters(("", "01"), FAR, FAR + 4), "0101")
        self.assertEqual(letters(("0", "01"), FAR, FAR + 4), "1010")

    def test_wrong_arguments(self):
        for moment in NO_MOMENTS:
            self.assertEqual(raised(InvalidMoment, letters, moment, 0, 1), moment)
        for low in [-1, -2, -FAR]:
            self.assertEqual(raised(InvalidNumber, letters, ("", "0"), low, 5), low)
        for low, high in [(1, 0), (5, 4), (0, -1), (FAR, FAR - 1), (3, -FAR)]:
            self.assertEqual(raised(InvalidNumber, letters, ("", "0"), low, high), high)

    def test_the_first_wrong_argument_comes_first(self):
        self.assertEqual(raised(InvalidMoment, letters, ("", ""), -1, -2), ("", ""))
        self.assertEqual(raised(InvalidNumber, letters, ("", "0"), -1, -2), -1)
        self.assertEqual(raised(InvalidNumber, letters, ("", "0"), -2, -2), -2)
        self.assertEqual(raised(InvalidMoment, letters, ("2", "0"), 3, 2), ("2", "0"))

    def test_by_name(self):
        self.assertEqual(letters(high=3, low=1, moment=("1", "0")), "00")


class ValueTest(unittest.TestCase):
    def expected(self, moment):
        """Return the value as the head's places plus the sum of an endless geometric series."""
        head, ring = moment
        found = sum([Fraction(int(sign), 2 ** (k + 1)) for k, sign in enumerate(head)], Fraction(0))
        once = sum([Fraction(int(sign), 2 ** (k + 1)) for k, sign in enumerate(ring)], Fraction(0))
        return found + once / (1 - Fraction(1, 2 ** len(ring))) / 2 ** len(head)

    def check(self, moment):
        expected = self.expected(moment)
        self.assertEqual(value(moment), (expected.numerator, expected.denominator), moment)

    def test_every_short_moment(self):
        for moment in all_moments(4, 4):
            self.check(moment)

    def test_long_moments(self):
        self.check(LONG)
        self.check(("1" * 60, "000000000001"))
        self.check(("0" * 59 + "1", "111111111110"))

    def test_zero_and_one(self):
        for moment in [("", "0"), ("0" * 60, "000000000000")]:
            self.assertEqual(value(moment), (0, 1))
        for moment in [("", "1"), ("1" * 60, "111111111111")]:
            self.assertEqual(value(moment), (1, 1))

    def test_the_same_value_of_two_moments(self):
        self.assertEqual(value(("0", "1")), (1, 2))
        self.assertEqual(value(("1", "0")), (1, 2))
        self.assertEqual(value(("110", "1")), value(("111", "0")))

    def test_long_rings_that_are_returned(self):
        self.assertEqual(value(moments_at(2, 9941)[0]), (2, 9941))

    def test_wrong_moments(self):
        for moment in NO_MOMENTS:
            self.assertEqual(raised(InvalidMoment, value, moment), moment)

    def test_by_name(self):
        self.assertEqual(value(moment=("", "10")), (2, 3))


class MomentsAtTest(unittest.TestCase):
    def check(self, top, bottom):
        found = moments_at(top, bottom)
        lowest = Fraction(top, bottom)
        places = lowest.denominator
        two = 0 < top < bottom and places & (places - 1) == 0
        self.assertEqual(len(found), 2 if two else 1, (top, bottom))
        for moment in found:
            self.assertEqual(Fraction(*value(moment)), lowest, (top, bottom))
            self.assertEqual(plain(moment), moment)
        if two:
            self.assertIs(is_before(found[0], found[1]), True)
        return found

    def test_every_small_fraction(self):
        for bottom in range(1, 70):
            for top in range(bottom + 1):
                self.check(top, bottom)

    def test_zero_and_one(self):
        for bottom in [1, 2, 3, 8, 10 ** 4]:
            self.assertEqual(moments_at(0, bottom), [("", "0")])
            self.assertEqual(moments_at(bottom, bottom), [("", "1")])

    def test_ends_in_ones_and_in_zeros(self):
        self.assertEqual(moments_at(1, 4), [("00", "1"), ("01", "0")])
        self.assertEqual(moments_at(3, 4), [("10", "1"), ("11", "0")])
        self.assertEqual(moments_at(1, 8192), [("0" * 13, "1"), ("0" * 12 + "1", "0")])

    def test_one_moment(self):
        self.assertEqual(moments_at(1, 3), [("", "01")])
        self.assertEqual(moments_at(2, 3), [("", "10")])
        self.assertEqual(moments_at(5, 6), [("1", "10")])
        self.assertEqual(moments_at(1, 12), [("00", "01")])

    def test_fractions_not_in_lowest_terms(self):
        for top, bottom in [(1, 2), (3, 8), (1, 3), (5, 6), (7, 12)]:
            for by in [2, 3, 4, 7, 8]:
                self.assertEqual(moments_at(top * by, bottom * by), moments_at(top, bottom))

    def test_large_bottoms(self):
        for top, bottom in [(1, 10 ** 4), (9999, 10 ** 4), (5000, 10 ** 4), (1, 9999), (1, 9941), (4970, 9941)]:
            self.check(top, bottom)
        self.assertEqual(len(moments_at(1, 9941)[0][1]), 9940)

    def test_wrong_numbers(self):
        for bottom in [0, -1, -FAR]:
            self.assertEqual(raised(InvalidNumber, moments_at, 0, bottom), bottom)
        for top, bottom in [(-1, 1), (2, 1), (3, 2), (-FAR, 5), (FAR, 10 ** 4), (10 ** 4 + 1, 10 ** 4)]:
            self.assertEqual(raised(InvalidNumber, moments_at, top, bottom), top)

    def test_the_bottom_comes_first(self):
        self.assertEqual(raised(InvalidNumber, moments_at, -1, 0), 0)
        self.assertEqual(raised(InvalidNumber, moments_at, 5, -2), -2)
        self.assertEqual(raised(InvalidNumber, moments_at, -3, -2), -2)

    def test_by_name_and_new_lists(self):
        self.assertEqual(moments_at(bottom=3, top=1), [("", "01")])
        for top, bottom in [(0, 1), (1, 1), (1, 2), (1, 3)]:
            first = moments_at(top, bottom)
            expected = list(first)
            first.append("x")
            self.assertEqual(moments_at(top, bottom), expected)


class IsBeforeTest(unittest.TestCase):
    def test_every_two_short_moments(self):
        starts = [(moment, start_of(moment, 20)) for moment in all_moments(2, 4)]
        for (first, start), (second, other) in product(starts, repeat=2):
            self.assertIs(is_before(first, second), start < other, (first, second))

    def test_the_same_otherwise_written(self):
        for first, second in [(("", "01"), ("0", "10")), (("", "01"), ("01", "0101")), (("1" * 60, "1"), ("", "11"))]:
            self.assertIs(is_before(first, second), False)
            self.assertIs(is_before(second, first), False)

    def test_the_same_value(self):
        self.assertIs(is_before(("0", "1"), ("1", "0")), True)
        self.assertIs(is_before(("1", "0"), ("0", "1")), False)

    def test_the_first_place_decides(self):
        self.assertIs(is_before(("0", "1"), ("1", "1")), True)
        self.assertIs(is_before(("01", "0"), ("", "0")), False)

    def test_differences_far_behind(self):
        for head in ["", "0", "1" * 60]:
            five, eight = (head, LIKE_FIVE[1]), (head, LIKE_EIGHT[1])
            self.assertEqual(start_of(five, len(head) + 11), start_of(eight, len(head) + 11))
            self.assertIs(is_before(five, eight), start_of(five, 99) < start_of(eight, 99))
            self.assertIs(is_before(eight, five), start_of(eight, 99) < start_of(five, 99))
        self.assertIs(is_before(("0" * 59 + "0", "0"), ("0" * 59 + "1", "0")), True)
        self.assertIs(is_before(("", "0"), ("0" * 60, "000000000001")), True)
        self.assertIs(is_before(("0" * 60, "000000000001"), ("", "0")), False)
        self.assertIs(is_before(("1" * 60, "111111111110"), ("", "1")), True)
        self.assertIs(is_before(("", "1"), ("1" * 60, "111111111110")), False)
        ring = "000000000001"
        self.assertIs(is_before(("", ring), (ring * 5, "000000000010")), True)
        self.assertIs(is_before((ring * 5, "000000000010"), ("", ring)), False)

    def test_long_rings_that_are_returned(self):
        low, high = moments_at(1, 9941)[0], moments_at(1, 9931)[0]
        self.assertIs(is_before(low, high), True)
        self.assertIs(is_before(high, low), False)

    def test_wrong_moments(self):
        for moment in NO_MOMENTS:
            self.assertEqual(raised(InvalidMoment, is_before, moment, ("", "0")), moment)
            self.assertEqual(raised(InvalidMoment, is_before, ("", "0"), moment), moment)
        self.assertEqual(raised(InvalidMoment, is_before, ("2", "0"), ("", "")), ("2", "0"))

    def test_by_name(self):
        self.assertIs(is_before(second=("", "1"), first=("", "0")), True)


class HaveCommonTailTest(unittest.TestCase):
    def test_every_two_short_moments(self):
        tails = []
        for moment in all_moments(2, 4):
            start = start_of(moment, 30)
            # With heads of at most 2 signs every tail that there is begins at place 2 to 5.
            tails.append((moment, {start[place:place + 12] for place in range(2, 6)}))
        for (first, ends), (second, others) in product(tails, repeat=2):
            self.assertIs(have_common_tail(first, second), not ends.isdisjoint(others), (first, second))

    def test_edges(self):
        self.assertIs(have_common_tail(("", "0"), ("1" * 60, "000000000000")), True)
        self.assertIs(have_common_tail(("", "0"), ("", "1")), False)
        self.assertIs(have_common_tail(("0", "1"), ("1", "0")), False)
        self.assertIs(have_common_tail(("", "01"), ("", "0011")), False)
        self.assertIs(have_common_tail(("0", "001"), ("1", "010010010010")), True)
        self.assertIs(have_common_tail(("", "001011"), ("", "001101")), False)
        self.assertIs(have_common_tail(("", "001011"), ("10", "110010")), True)

    def test_the_same_otherwise_written(self):
        self.assertIs(have_common_tail(("", "01"), ("0", "1010")), True)

    def test_long_rings_that_are_returned(self):
        self.assertIs(have_common_tail(moments_at(1, 9941)[0], moments_at(2, 9941)[0]), True)
        self.assertIs(have_common_tail(moments_at(1, 9941)[0], moments_at(1, 9931)[0]), False)

    def test_wrong_moments(self):
        for moment in NO_MOMENTS:
            self.assertEqual(raised(InvalidMoment, have_common_tail, moment, ("", "0")), moment)
            self.assertEqual(raised(InvalidMoment, have_common_tail, ("", "0"), moment), moment)
        self.assertEqual(raised(InvalidMoment, have_common_tail, ("", ""), ("2", "0")), ("", ""))

    def test_by_name(self):
        self.assertIs(have_common_tail(second=("", "1"), first=("0", "1")), True)


if __name__ == "__main__":
    unittest.main()
