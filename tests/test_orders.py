import unittest
from itertools import product
from math import gcd, lcm

from halfcuts.edits import Edit, identity, power
from halfcuts.errors import InvalidNumber, InvalidWord, NoOrder
from halfcuts.fates import drawing_cycles
from halfcuts.orders import cycle_lengths, drawn_piece, is_drawn, is_permuted, order, permuted_cut
from halfcuts.words import is_cut
from tests.plainly import CLOCK, FOUR, LONG_CYCLES, SMALL, coarsest_permuted, cycles_of_pieces, piece_moved, piece_way
from tests.plainly import permutes, some_pairs, turned
from tests.samples import NO_WORDS, all_cuts, all_words, raised, start_of

GROW = [("00", "0"), ("01", "10"), ("1", "11")]
TURN = [("0", "10"), ("10", "11"), ("11", "0")]
FOUR_TIMES = [("0", "1"), ("10", "01"), ("11", "00")]
LARGER = some_pairs(11, 5, 300) + some_pairs(12, 6, 300) + some_pairs(13, 7, 600) + LONG_CYCLES
ALL = SMALL + FOUR + LARGER


class ExampleTest(unittest.TestCase):
    def test_the_example_of_the_document(self):
        grow = Edit([('00', '0'), ('01', '10'), ('1', '11')])
        four = Edit([('0', '1'), ('10', '01'), ('11', '00')])
        self.assertEqual(
            [order(grow), drawn_piece(grow), order(four), permuted_cut(four),
             cycle_lengths(Edit([('00', '01'), ('01', '00'), ('1', '1')])), is_drawn(grow, '1', 3, '111'),
             is_drawn(grow, '0', 1, '0')],
            [None, ('1', 1, '1'), 4, ['00', '01', '10', '11'], [1, 2], True, False])


class EitherTest(unittest.TestCase):
    """[9]: an edit has either an order, with a permuted cut, or a piece that is drawn into itself."""

    def test_every_edit_has_one_of_both(self):
        orders = 0
        for pairs in ALL:
            edit = Edit(pairs)
            if order(edit) is None:
                self.check_drawn(edit)
            else:
                orders += 1
                self.check_permuted(edit)
        self.assertGreater(orders, 150)
        self.assertGreater(len(ALL) - orders, 150)

    def check_drawn(self, edit):
        """Without order: a piece is taken, step by step, to a longer piece that begins with it."""
        self.assertIsNone(permuted_cut(edit))
        self.assertIsNone(raised(NoOrder, cycle_lengths, edit))
        piece, steps, rest = drawn_piece(edit)
        self.assertGreater(len(rest), 0)
        self.assertEqual(piece_way(edit.pairs, piece, steps), piece + rest)
        self.assertIs(is_drawn(edit, piece, steps, rest), True)

    def check_permuted(self, edit):
        """With order: pieces come around, so no repetition lengthens any of them."""
        self.assertIsNone(drawn_piece(edit))
        cut = permuted_cut(edit)
        self.assertEqual(cut, coarsest_permuted(edit.pairs))
        self.assertIs(is_cut(cut), True)
        self.assertIs(is_permuted(edit, cut), True)
        lengths = cycles_of_pieces(edit.pairs, cut)
        self.assertEqual(cycle_lengths(edit), sorted(set(lengths)))
        self.assertEqual(order(edit), lcm(*lengths))


class OrderTest(unittest.TestCase):
    def test_the_least_repetition_that_is_the_identity(self):
        for pairs in SMALL + FOUR:
            edit = Edit(pairs)
            repeated, found = edit, None
            # No edit with up to four pairs needs more repetitions than twelve, three pieces and four.
            for exponent in range(1, 13):
                if found is None and repeated.pairs == [("", "")]:
                    found = exponent
                repeated = repeated + edit
            self.assertEqual(order(edit), found, pairs)

    def test_larger_edits(self):
        for pairs in LARGER:
            edit = Edit(pairs)
            many = order(edit)
            if many is not None:
                self.assertEqual(sum_of(edit, many), identity())
                for prime in [2, 3, 5, 7, 11, 13, 17, 19, 23]:
                    if many % prime == 0:
                        self.assertNotEqual(sum_of(edit, many // prime), identity())

    def test_edges(self):
        self.assertEqual(order(identity()), 1)
        self.assertEqual(order(Edit([("0", "0"), ("1", "1")])), 1)
        self.assertEqual(order(Edit([("0", "1"), ("1", "0")])), 2)
        self.assertEqual(order(Edit(TURN)), 3)
        self.assertIsNone(order(Edit(GROW)))
        self.assertEqual(order(Edit(CLOCK)), 64)
        self.assertEqual([order(Edit(pairs)) for pairs in LONG_CYCLES], [64, 48, None, None, 156, 272])

    def test_pairs_in_any_form(self):
        self.assertEqual(order(Edit([("10", "01"), ("11", "00"), ("01", "11"), ("00", "10")])), 4)
        self.assertEqual(permuted_cut(Edit([("11", "01"), ("0", "1"), ("10", "00")])), ["0", "1"])

    def test_by_name(self):
        self.assertEqual(order(edit=Edit(TURN)), 3)
        self.assertEqual(permuted_cut(edit=Edit(TURN)), ["0", "10", "11"])
        self.assertEqual(cycle_lengths(edit=Edit(TURN)), [3])
        self.assertEqual(drawn_piece(edit=Edit(GROW)), ("1", 1, "1"))


def sum_of(edit, many):
    """Return the edit done so many times, by sums alone."""
    found, square = identity(), edit
    while many:
        if many % 2:
            found = found + square
        square, many = square + square, many // 2
    return found


class PermutedCutTest(unittest.TestCase):
    def test_coarsest_of_all_short_cuts(self):
        cuts = all_cuts(4)
        for pairs in SMALL + FOUR[::25]:
            edit = Edit(pairs)
            permuted = [cut for cut in cuts if permutes(pairs, cut)]
            found = permuted_cut(edit)
            if found is None:
                self.assertEqual(len(permuted), 0)
            else:
                self.assertTrue(found in permuted)
                for cut in permuted:
                    self.assertTrue(all(any(word.startswith(piece) for piece in found) for word in cut))

    def test_edges(self):
        self.assertEqual(permuted_cut(identity()), [""])
        self.assertEqual(permuted_cut(Edit([("0", "1"), ("1", "0")])), ["0", "1"])
        self.assertEqual(permuted_cut(Edit(CLOCK)), [word for word in all_words(6) if len(word) == 6])
        self.assertIsNone(permuted_cut(Edit(GROW)))

    def test_new_lists(self):
        edit = Edit(FOUR_TIMES)
        permuted_cut(edit).append("x")
        cycle_lengths(edit).append(7)
        self.assertEqual(permuted_cut(edit), ["00", "01", "10", "11"])
        self.assertEqual(cycle_lengths(edit), [4])
        self.assertEqual(edit.pairs, FOUR_TIMES)


class CycleLengthsTest(unittest.TestCase):
    def test_each_length_once(self):
        same = [("000", "001"), ("001", "000"), ("01", "01"), ("10", "11"), ("11", "10")]
        self.assertEqual(cycle_lengths(Edit(same)), [1, 2])
        self.assertEqual(cycle_lengths(identity()), [1])
        self.assertEqual(cycle_lengths(Edit([("00", "01"), ("01", "10"), ("10", "00"), ("11", "11")])), [1, 3])
        self.assertEqual(cycle_lengths(Edit(CLOCK)), [64])

    def test_no_order(self):
        for pairs in [GROW] + LONG_CYCLES[2:4]:
            edit = Edit(pairs)
            self.assertIsNone(raised(NoOrder, cycle_lengths, edit))
            self.assertIsNone(raised(NoOrder, cycle_lengths, edit=-edit))
            self.assertEqual(edit.pairs, pairs)


class IsPermutedTest(unittest.TestCase):
    def test_every_small_edit_and_short_cut(self):
        for pairs in SMALL + FOUR[::10]:
            edit = Edit(pairs)
            for cut in all_cuts(3):
                self.assertIs(is_permuted(edit, cut), permutes(pairs, cut), (pairs, cut))

    def test_every_finer_cut_that_is_permuted(self):
        for pairs in LARGER[::9]:
            edit = Edit(pairs)
            cut = permuted_cut(edit)
            if cut is not None:
                finer = sorted([word + sign for word in cut for sign in ("0", "10", "11")])
                self.assertIs(is_permuted(edit, finer), True)
                one = sorted(cut[1:] + [cut[0] + "0", cut[0] + "1"])
                self.assertIs(is_permuted(edit, one), piece_moved(edit.pairs, cut[0]) == cut[0])

    def test_lists_that_are_no_cuts(self):
        for words in [[], ["0"], ["1", "0"], ["0", "1", "1"], ["", "0", "1"], ["", ""]]:
            self.assertIs(is_permuted(identity(), words), False)
            self.assertIs(is_permuted(Edit([("0", "1"), ("1", "0")]), words), False)
        for word in NO_WORDS:
            self.assertIs(is_permuted(identity(), [word]), False)
            self.assertIs(is_permuted(identity(), sorted(["0", "1", word])), False)

    def test_edits_of_any_size(self):
        far = power(Edit(GROW), 12)
        self.assertIs(is_permuted(far, far.sources), False)
        self.assertIs(is_permuted(power(Edit(CLOCK), 5), all_words(6)[63:]), True)
        self.assertIs(is_permuted(far + -far, [""]), True)

    def test_by_name_and_the_list_stays(self):
        words = ["0", "10", "11"]
        self.assertIs(is_permuted(words=words, edit=Edit(TURN)), True)
        self.assertEqual(words, ["0", "10", "11"])


class IsDrawnTest(unittest.TestCase):
    def test_every_small_edit_and_word(self):
        rests = all_words(2)
        for pairs in SMALL + FOUR[::25]:
            edit = Edit(pairs)
            for piece, steps in product(all_words(3), (1, 2, 3, 4)):
                goal = piece_way(pairs, piece, steps)
                for rest in rests:
                    expected = rest != "" and goal == piece + rest
                    self.assertIs(is_drawn(edit, piece, steps, rest), expected, (pairs, piece, steps, rest))

    def test_each_step_takes_a_piece_to_a_piece(self):
        grow = Edit(GROW)
        self.assertIs(is_drawn(grow, "", 1, "0"), False)
        self.assertIs(is_drawn(-grow, "0", 2, "00"), True)
        self.assertIs(is_drawn(-grow, "10", 1, "1"), False)
        self.assertIs(is_drawn(grow, "00", 1, "0"), False)

    def test_an_empty_rest(self):
        self.assertIs(is_drawn(identity(), "", 1, ""), False)
        self.assertIs(is_drawn(Edit(FOUR_TIMES), "00", 4, ""), False)

    def test_many_steps(self):
        grow = Edit(GROW)
        self.assertIs(is_drawn(grow, "1", 10 ** 4, "1" * 10 ** 4), True)
        self.assertIs(is_drawn(grow, "1", 10 ** 4, "1" * (10 ** 4 - 1)), False)
        self.assertIs(is_drawn(grow, "1", 10 ** 4, "1" * 40), False)
        self.assertIs(is_drawn(grow, "0" * 40, 10 ** 4, "1"), False)
        self.assertIs(is_drawn(Edit(CLOCK), "0" * 6, 6400, "0"), False)
        far = power(grow, 12)
        self.assertIs(is_drawn(far, "1", 10 ** 4, "1" * 120000), True)
        self.assertIs(is_drawn(far, "1", 10 ** 4, "1"), False)
        for pairs in LONG_CYCLES[2:4]:
            piece, steps, rest = drawn_piece(Edit(pairs))
            self.assertIs(is_drawn(Edit(pairs), piece, 600 * steps, rest * 600), True)
            self.assertIs(is_drawn(Edit(pairs), piece + "01" * 10, 600 * steps, rest * 600), False)

    def test_larger_edits(self):
        for pairs in LARGER[::20]:
            edit = power(Edit(pairs), 2)
            for piece, steps in product(all_words(5)[::3], (1, 5, 20)):
                goal = piece_way(edit.pairs, piece, steps)
                if goal is not None and goal.startswith(piece):
                    self.assertIs(is_drawn(edit, piece, steps, goal[len(piece):]), goal != piece)
                self.assertIs(is_drawn(edit, piece, steps, "01"), goal == piece + "01")

    def test_wrong_arguments_in_their_order(self):
        grow = Edit(GROW)
        for word in NO_WORDS:
            self.assertEqual(raised(InvalidWord, is_drawn, grow, word, 0, "2"), word)
            self.assertEqual(raised(InvalidWord, is_drawn, grow, word, 1, "1"), word)
            self.assertEqual(raised(InvalidWord, is_drawn, grow, "1", 1, word), word)
            self.assertEqual(raised(InvalidNumber, is_drawn, grow, "1", 0, word), 0)
        for steps in [0, -1, -10 ** 30]:
            self.assertEqual(raised(InvalidNumber, is_drawn, grow, "1", steps, "1"), steps)
            self.assertEqual(raised(InvalidNumber, is_drawn, grow, "1", steps, ""), steps)

    def test_by_name(self):
        self.assertIs(is_drawn(rest="11", steps=2, piece="1", edit=Edit(GROW)), True)


class DrawnPieceTest(unittest.TestCase):
    def test_of_the_least_moment_the_shortest_piece(self):
        found = 0
        for pairs in ALL:
            edit = Edit(pairs)
            if order(edit) is None:
                found += 1
                piece, steps, rest = drawn_piece(edit)
                cycle = drawing_cycles(edit)[0]
                self.assertEqual(steps, len(cycle))
                self.assertEqual(start_of((piece, rest), 40), start_of(cycle[0], 40))
                shorter = [piece_way(edit.pairs, piece[:many], steps) for many in range(len(piece))]
                self.assertEqual(shorter, [None] * len(piece))
        self.assertGreater(found, 150)

    def test_edges(self):
        self.assertIsNone(drawn_piece(identity()))
        self.assertEqual(drawn_piece(-Edit(GROW)), ("0", 1, "0"))
        both = Edit([("000", "00"), ("001", "010"), ("01", "011"), ("10", "100"), ("110", "101"), ("111", "11")])
        self.assertEqual(drawn_piece(both), ("01", 1, "1"))
        two = Edit([("0", "1"), ("100", "00"), ("101", "010"), ("11", "011")])
        self.assertEqual(drawn_piece(two), ("01", 2, "1"))
        self.assertEqual(drawn_piece(-two), ("00", 2, "0"))


class GuaranteesTest(unittest.TestCase):
    """What follows from [9] and [11] for inverses, powers and alike edits."""

    def test_inverses(self):
        for pairs in SMALL + FOUR[::3] + LARGER[::3]:
            edit, back = Edit(pairs), Edit(turned(pairs))
            self.assertEqual(order(edit), order(back))
            self.assertEqual(permuted_cut(edit), permuted_cut(back))
            if order(edit) is not None:
                self.assertEqual(cycle_lengths(edit), cycle_lengths(back))

    def test_powers(self):
        for pairs in SMALL + FOUR[::5] + LONG_CYCLES[4:]:
            edit = Edit(pairs)
            many = order(edit)
            for exponent in [-3, -1, 0, 1, 2, 3, 4, 6]:
                repeated = power(edit, exponent)
                if len(repeated) > 7:
                    continue
                if many is None:
                    self.assertEqual(order(repeated), 1 if exponent == 0 else None)
                else:
                    self.assertEqual(order(repeated), many // gcd(many, exponent))

    def test_alike_edits(self):
        others = [Edit(pairs) for pairs in SMALL[1::4]]
        for pairs, other in product(SMALL[1:] + FOUR[::60], others):
            edit = Edit(pairs)
            alike = -other + edit + other
            self.assertEqual(order(alike), order(edit))
            if order(edit) is not None:
                self.assertEqual(cycle_lengths(alike), cycle_lengths(edit))


if __name__ == "__main__":
    unittest.main()
