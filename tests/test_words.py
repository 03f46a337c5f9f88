import unittest
from itertools import combinations, product

from halfcuts.errors import InvalidMoment, InvalidWord
from halfcuts.words import common_cut, cut_with, halved, is_cut, piece_of
from tests.samples import NO_MOMENTS, NO_WORDS, all_cuts, all_moments, all_words, start_of

DEEP = sorted(["0" * many + "1" for many in range(40)] + ["0" * 40])


def begins_with_one_of(word, words):
    return any(word.startswith(other) for other in words)


class ExampleTest(unittest.TestCase):
    def test_the_example_of_the_document(self):
        self.assertEqual(
            [is_cut(['0', '10', '11']), is_cut(['0', '10']), cut_with(['010']), halved(['0', '1'], '1'),
             common_cut(['0', '10', '11'], ['00', '01', '1']), piece_of(['0', '10', '11'], ('1', '01'))],
            [True, False, ['00', '010', '011', '1'], ['0', '10', '11'], ['00', '01', '10', '11'], '10'])


class IsCutTest(unittest.TestCase):
    def test_every_set_of_short_words(self):
        words = sorted(all_words(3))
        ends = [word for word in words if len(word) == 3]
        for many in range(9):
            for chosen in combinations(words, many):
                fits = all(sum([end.startswith(word) for word in chosen]) == 1 for end in ends)
                self.assertIs(is_cut(list(chosen)), fits, chosen)

    def test_every_short_cut(self):
        for cut in all_cuts(4):
            self.assertIs(is_cut(cut), True, cut)

    def test_only_ascending_lists(self):
        for cut in all_cuts(3):
            for k in range(len(cut) - 1):
                other = cut[:k] + [cut[k + 1], cut[k]] + cut[k + 2:]
                self.assertIs(is_cut(other), False, other)

    def test_no_word_twice_and_none_missing(self):
        for cut in all_cuts(3):
            for k in range(len(cut)):
                self.assertIs(is_cut(cut[:k] + cut[k + 1:]), False)
                self.assertIs(is_cut(cut[:k + 1] + cut[k:]), False)

    def test_edges(self):
        self.assertIs(is_cut([]), False)
        self.assertIs(is_cut([""]), True)
        self.assertIs(is_cut(["", ""]), False)
        self.assertIs(is_cut(["", "0", "1"]), False)
        self.assertIs(is_cut(DEEP), True)
        self.assertIs(is_cut(DEEP[1:]), False)
        self.assertIs(is_cut(DEEP[:20] + DEEP[21:]), False)

    def test_strings_that_are_no_words(self):
        for word in NO_WORDS:
            self.assertIs(is_cut([word]), False, word)
            self.assertIs(is_cut(["0", word]), False, word)
            self.assertIs(is_cut(sorted(["0", "1", word])), False, word)
        self.assertIs(is_cut(["0", "1", "2"]), False)
        self.assertIs(is_cut(["00", "0a", "1"]), False)

    def test_by_name_and_the_list_stays(self):
        words = ["0", "10", "11"]
        self.assertIs(is_cut(words=words), True)
        self.assertEqual(words, ["0", "10", "11"])


class CutWithTest(unittest.TestCase):
    def test_every_three_short_words(self):
        cuts = sorted(all_cuts(3), key=len)
        for words in product(all_words(3), repeat=3):
            fitting = [cut for cut in cuts if all(word in cut for word in words)]
            expected = fitting[0] if fitting else None
            self.assertEqual(cut_with(list(words)), expected, words)

    def test_edges(self):
        self.assertEqual(cut_with([]), [""])
        self.assertEqual(cut_with([""]), [""])
        self.assertEqual(cut_with(["", ""]), [""])
        self.assertEqual(cut_with(["1", "1", "1"]), ["0", "1"])
        self.assertIsNone(cut_with(["", "0"]))
        self.assertIsNone(cut_with(["01", "0"]))
        self.assertIsNone(cut_with(["0", "01", "0"]))

    def test_words_of_forty_signs(self):
        self.assertEqual(cut_with(["0" * 40]), DEEP)
        both = cut_with(["0" * 40, "1" * 40])
        self.assertEqual(len(both), 80)
        self.assertTrue(is_cut(both))
        self.assertIsNone(cut_with(["0" * 40, "0" * 39]))

    def test_wrong_words(self):
        for word in NO_WORDS:
            for words in [[word], ["0", word], [word, "0"], ["0", "01", word], ["", "0", word]]:
                with self.assertRaises(InvalidWord) as caught:
                    cut_with(words)
                self.assertEqual(caught.exception.value, word)

    def test_the_first_wrong_word_comes_first(self):
        with self.assertRaises(InvalidWord) as caught:
            cut_with(["0", "01", "b", "a", "b"])
        self.assertEqual(caught.exception.value, "b")

    def test_by_name_and_lists(self):
        words = ["1", "00", "1"]
        found = cut_with(words=words)
        self.assertEqual(found, ["00", "01", "1"])
        self.assertEqual(words, ["1", "00", "1"])
        cut = ["0", "1"]
        again = cut_with(cut)
        self.assertIsNot(again, cut)
        again.append("x")
        self.assertEqual(cut, ["0", "1"])
        empty = cut_with([])
        empty.append("x")
        self.assertEqual(cut_with([]), [""])


class HalvedTest(unittest.TestCase):
    def test_every_short_cut_and_piece(self):
        for cut in all_cuts(3):
            for piece in all_words(4):
                found = halved(cut, piece)
                self.assertTrue(is_cut(found), (cut, piece))
                if piece in cut:
                    expected = [word for word in cut if word != piece] + [piece + "0", piece + "1"]
                    self.assertEqual(found, sorted(expected))
                else:
                    self.assertEqual(found, cut)

    def test_edges(self):
        self.assertEqual(halved([""], ""), ["0", "1"])
        self.assertEqual(halved([""], "0"), [""])
        self.assertEqual(halved(["0", "1"], ""), ["0", "1"])
        self.assertEqual(halved(DEEP, "0" * 40), ["0" * 41, "0" * 40 + "1"] + DEEP[1:])

    def test_wrong_pieces(self):
        for word in NO_WORDS:
            with self.assertRaises(InvalidWord) as caught:
                halved(["0", "1"], word)
            self.assertEqual(caught.exception.value, word)

    def test_by_name_and_lists(self):
        cut = ["0", "1"]
        self.assertEqual(halved(piece="1", cut=cut), ["0", "10", "11"])
        self.assertEqual(cut, ["0", "1"])
        same = halved(cut, "00")
        self.assertEqual(same, cut)
        self.assertIsNot(same, cut)


class CommonCutTest(unittest.TestCase):
    def test_every_two_short_cuts(self):
        cuts = sorted(all_cuts(3), key=len)
        for cut, other in product(cuts, repeat=2):
            fitting = [
                found for found in cuts
                if all(begins_with_one_of(word, cut) and begins_with_one_of(word, other) for word in found)
            ]
            self.assertEqual(common_cut(cut, other), fitting[0], (cut, other))

    def test_edges(self):
        self.assertEqual(common_cut([""], [""]), [""])
        self.assertEqual(common_cut([""], ["0", "1"]), ["0", "1"])
        self.assertEqual(common_cut(DEEP, [""]), DEEP)
        self.assertEqual(common_cut(["0", "1"], DEEP), DEEP)
        high = ["0"] + sorted(["1" * many + "0" for many in range(1, 40)] + ["1" * 40])
        self.assertEqual(common_cut(DEEP, high), DEEP[:-1] + high[1:])

    def test_by_name_and_lists(self):
        cut, other = ["0", "1"], ["00", "01", "1"]
        found = common_cut(other=other, cut=cut)
        self.assertEqual(found, ["00", "01", "1"])
        self.assertEqual((cut, other), (["0", "1"], ["00", "01", "1"]))
        self.assertIsNot(found, other)
        self.assertIsNot(common_cut(cut, cut), cut)
        self.assertIsNot(common_cut(other, cut), other)


class PieceOfTest(unittest.TestCase):
    def test_every_short_cut_and_moment(self):
        for cut in all_cuts(3):
            for moment in all_moments(3, 2):
                start = start_of(moment, 3)
                expected = [word for word in cut if start.startswith(word)]
                self.assertEqual([piece_of(cut, moment)], expected, (cut, moment))

    def test_edges(self):
        self.assertEqual(piece_of([""], ("", "0")), "")
        self.assertEqual(piece_of([""], ("01", "10")), "")
        self.assertEqual(piece_of(DEEP, ("", "0")), "0" * 40)
        self.assertEqual(piece_of(DEEP, ("0" * 60, "1")), "0" * 40)
        self.assertEqual(piece_of(DEEP, ("", "000000000001")), "0" * 11 + "1")
        self.assertEqual(piece_of(DEEP, ("0" * 30, "0000000001")), "0" * 39 + "1")
        self.assertEqual(piece_of(DEEP, ("0" * 30, "00000000001")), "0" * 40)

    def test_wrong_moments(self):
        for moment in NO_MOMENTS:
            with self.assertRaises(InvalidMoment) as caught:
                piece_of(["0", "1"], moment)
            self.assertEqual(caught.exception.value, moment)

    def test_by_name_and_the_list_stays(self):
        cut = ["0", "10", "11"]
        self.assertEqual(piece_of(moment=("", "10"), cut=cut), "10")
        self.assertEqual(cut, ["0", "10", "11"])


if __name__ == "__main__":
    unittest.main()
