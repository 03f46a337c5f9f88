import random
import unittest
from itertools import product

from halfcuts.edits import Edit, identity
from halfcuts.errors import InvalidMoment
from halfcuts.moments import moments_at, plain
from halfcuts.moving import can_take, edit_taking
from tests.plainly import FOUR, SMALL, can_be_taken, moved, some_pairs
from tests.samples import NO_MOMENTS, all_moments, raised

MOMENTS = all_moments(2, 2)
LONG_HEADS = ["01" * 30, "0" * 60, "1" * 60, "1" + "0" * 59, "0" * 59 + "1", "10" * 29 + "00"]
LONG_RINGS = ["001011010001", "000000000001", "011111111111", "001001001011", "010101010111", "000000111111"]


def some_moment(chance, head, ring):
    signs = [chance.choice("01") for _ in range(head + ring)]
    return "".join(signs[:head]), "".join(signs[head:])


class MovingTest(unittest.TestCase):
    def check(self, pairs):
        """Compare both with what is told without the package; return whether an edit can do it."""
        expected = can_be_taken(pairs)
        self.assertIs(can_take(pairs), expected, pairs)
        found = edit_taking(pairs)
        self.assertIs(found is not None, expected, pairs)
        if expected:
            self.check_edit(found, pairs)
        return expected

    def check_edit(self, found, pairs):
        self.assertEqual(Edit(found.pairs), found)
        for first, second in pairs:
            self.assertEqual(found(first), plain(second))
            self.assertEqual(moved(found.pairs, first), moved([("", "")], second))

    def check_many(self, lists):
        told = [self.check(pairs) for pairs in lists]
        return told.count(True), told.count(False)


class ExampleTest(unittest.TestCase):
    def test_the_example_of_the_document(self):
        found = edit_taking([(('', '01'), ('0', '01')), (('', '1'), ('0', '1'))])
        self.assertEqual(
            [found(('', '01')), found(('', '1')), can_take([(('', '01'), ('', '0011'))]),
             can_take([(('', '0'), ('', '1'))]), can_take([])],
            [('0', '01'), ('0', '1'), False, False, True])


class TakenTest(MovingTest):
    def test_the_empty_list(self):
        self.assertIs(can_take([]), True)
        self.assertEqual(Edit(edit_taking([]).pairs), edit_taking([]))

    def test_one_pair_of_short_moments(self):
        able, unable = self.check_many([[pair] for pair in product(MOMENTS, repeat=2)])
        self.assertGreater(able, 400)
        self.assertGreater(unable, 400)

    def test_two_pairs_of_short_moments(self):
        pairs = list(product(all_moments(1, 2), repeat=2))
        able, unable = self.check_many([[pair, other] for pair in pairs[::5] for other in pairs[::4]])
        self.assertGreater(able, 300)
        self.assertGreater(unable, 300)

    def test_up_to_six_pairs(self):
        chance = random.Random(51)
        for many, head, ring in product((2, 3, 4, 5, 6), (0, 1, 3, 6, 60), (1, 2, 3, 12)):
            for _ in range(6):
                rings = [some_moment(chance, head, ring)[1] for _ in range(many)]
                turns = [chance.randrange(len(word)) for word in rings]
                pairs = []
                for word, turn in zip(rings, turns):
                    first = some_moment(chance, chance.randrange(head + 1), 1)[0], word
                    second = some_moment(chance, chance.randrange(head + 1), 1)[0], word[turn:] + word[:turn]
                    pairs.append((first, second))
                self.check(pairs)

    def test_moments_close_to_each_other(self):
        near = ["0" * many + "1" for many in (5, 20, 40, 58, 59)] + ["0" * 60]
        pairs = [((head, "01"), (other, "10")) for head, other in zip(near, near[2:] + near[:2])]
        self.assertIs(self.check(pairs), True)
        pairs = [((head, "0"), ("1" + head[1:], "0")) for head in near[:-1]] + [(("", "0"), ("", "0"))]
        self.assertIs(self.check(pairs), True)

    def test_all_of_the_clip(self):
        # The pieces before the tails are the whole clip for the first moments, but not for the second ones.
        self.assertIs(self.check([(("0", "01"), ("00", "01")), (("1", "10"), ("01", "10"))]), True)
        self.assertIs(self.check([(("", "01"), ("0", "01"))]), True)
        self.assertIs(self.check([(("0", "01"), ("", "01"))]), True)
        self.assertIs(self.check([(("", "01"), ("", "01"))]), True)
        four = [((word, "0"), (word[::-1] + "1", "0")) for word in ("001", "011", "101", "111")]
        self.assertIs(self.check(four), True)

    def test_long_heads_and_rings(self):
        pairs = [((head, ring), (head[::-1], ring[5:] + ring[:5])) for head, ring in zip(LONG_HEADS, LONG_RINGS)]
        self.assertIs(self.check(pairs), True)
        pairs = [((head, ring), ("", ring)) for head, ring in zip(LONG_HEADS, LONG_RINGS)]
        self.assertIs(self.check(pairs), True)
        pairs = [((head, ring), (ring, head)) for head, ring in zip(LONG_HEADS, LONG_RINGS)]
        self.assertIs(self.check(pairs), False)

    def test_what_edits_take(self):
        chance = random.Random(52)
        for pairs in SMALL + FOUR[::9] + some_pairs(53, 7, 40):
            moments = [some_moment(chance, chance.randrange(8), chance.randrange(1, 5)) for _ in range(6)]
            self.assertIs(self.check([(moment, moved(pairs, moment)) for moment in moments]), True)

    def test_what_no_edit_takes(self):
        # No edit of up to four pairs takes a list of pairs that is told as impossible.
        edits = [Edit(pairs) for pairs in SMALL + FOUR[::3]]
        moments = [("", "0"), ("", "1"), ("", "01"), ("1", "01"), ("0", "1"), ("00", "1")]
        for first, second in product(product(moments, repeat=2), repeat=2):
            if not can_take([first, second]):
                for edit in edits:
                    self.assertFalse(edit(first[0]) == first[1] and edit(second[0]) == second[1])

    def test_six_at_a_time(self):
        swapped = [((head, "0"), (head[::-1] + "1", "0")) for head in ("1", "01", "11", "001", "101", "011")]
        self.assertIs(self.check(swapped), True)
        around = [((head, "0"), (other, "0")) for head, other in zip(["", "1", "01", "11", "001", "101"],
                                                                      ["1", "01", "11", "001", "101", ""])]
        self.assertIs(self.check(around), True)


class PairsTest(MovingTest):
    def test_equal_first_moments(self):
        self.assertIs(self.check([(("", "01"), ("0", "01")), (("", "01"), ("1", "01"))]), False)
        self.assertIs(self.check([(("", "01"), ("0", "01")), (("01", "0101"), ("1", "01"))]), False)
        pairs = [(("", "01"), ("1", "01")), (("", "1"), ("", "1")), (("0", "10"), ("1", "10"))]
        self.assertIs(self.check(pairs), False)

    def test_equal_second_moments(self):
        self.assertIs(self.check([(("", "01"), ("0", "01")), (("1", "01"), ("0", "01"))]), False)
        self.assertIs(self.check([(("", "0"), ("", "0")), (("1", "0"), ("000", "00"))]), False)

    def test_pairs_and_moments_that_stand_twice(self):
        pair = (("", "01"), ("0", "01"))
        self.assertIs(self.check([pair, pair]), True)
        self.assertIs(self.check([pair, (("0", "10"), ("001", "0101"))]), True)
        self.assertIs(self.check([pair] * 6), True)
        # A moment may be the first one of a pair and the second one of another.
        self.assertIs(self.check([pair, (("0", "01"), ("", "01"))]), True)
        self.assertIs(self.check([pair, (("0", "01"), ("00", "01")), (("00", "01"), ("", "01"))]), True)

    def test_moments_that_are_not_plain(self):
        self.assertIs(self.check([(("0", "0"), ("1", "00")), (("1111", "111111"), ("0", "1"))]), True)
        self.assertIs(self.check([(("0" * 60, "0" * 12), ("1", "0")), (("", "0"), ("", "0"))]), False)
        self.assertIs(self.check([(("", "010101"), ("1", "1010"))]), True)

    def test_common_tails(self):
        self.assertIs(self.check([(("", "001"), ("", "010"))]), True)
        self.assertIs(self.check([(("", "001"), ("", "011"))]), False)
        self.assertIs(self.check([(("", "0"), ("", "1"))]), False)
        self.assertIs(self.check([(("", "01"), ("", "0011"))]), False)
        self.assertIs(self.check([(("", "0"), ("1", "0")), (("", "1"), ("", "01"))]), False)

    def test_moments_that_are_returned(self):
        first, second = moments_at(1, 9941)[0], moments_at(2, 9941)[0]
        for pairs in ([(first, second)], [(second, first)], [(first, second), (second, first)]):
            self.assertIs(can_take(pairs), True)
            found = edit_taking(pairs)
            for moment, goal in pairs:
                self.assertEqual(found(moment), goal)
        head, ring = first
        far = plain((head, ring[4000:] + ring[:4000]))
        self.assertEqual(edit_taking([(first, far)])(first), far)
        self.assertIs(can_take([(first, moments_at(1, 9931)[0])]), False)


class ErrorsTest(unittest.TestCase):
    def test_wrong_moments(self):
        good = (("", "01"), ("0", "01"))
        for call, moment in product((can_take, edit_taking), NO_MOMENTS):
            self.assertEqual(raised(InvalidMoment, call, [(moment, ("", "0"))]), moment)
            self.assertEqual(raised(InvalidMoment, call, [(("", "0"), moment)]), moment)
            self.assertEqual(raised(InvalidMoment, call, [good, good, (moment, ("", "0"))]), moment)

    def test_the_first_one_comes_first(self):
        good, bad, worse = ("", "0"), ("0", "2"), ("", "")
        for call in (can_take, edit_taking):
            self.assertEqual(raised(InvalidMoment, call, [(bad, worse)]), bad)
            self.assertEqual(raised(InvalidMoment, call, [(worse, bad)]), worse)
            self.assertEqual(raised(InvalidMoment, call, [(good, bad), (worse, good)]), bad)
            self.assertEqual(raised(InvalidMoment, call, [(good, good), (good, worse), (bad, bad)]), worse)
            # Also behind pairs that no edit takes.
            self.assertEqual(raised(InvalidMoment, call, [(good, ("", "1")), (good, good), (bad, good)]), bad)

    def test_by_name_and_the_list_that_is_passed(self):
        pairs = [(("0", "10"), ("0", "01")), (("", "1"), ("0", "1"))]
        before = list(pairs)
        self.assertIs(can_take(pairs=pairs), True)
        found = edit_taking(pairs=pairs)
        self.assertEqual(pairs, before)
        pairs.clear()
        self.assertEqual(found(("", "01")), ("0", "01"))
        told = found.pairs
        told.clear()
        self.assertNotEqual(found.pairs, told)
        self.assertEqual(edit_taking([]) + identity(), edit_taking([]))


if __name__ == "__main__":
    unittest.main()
