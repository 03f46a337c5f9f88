"""What the document says of the whole program, with its parts taken together."""

import unittest

from halfcuts.alike import are_alike, edit_between, root, two_swaps
from halfcuts.clips import Clip
from halfcuts.counting import all_edits, count_edits
from halfcuts.edits import Edit, identity, image, kind_of, power
from halfcuts.far import first_visit, letters_after, share, visits
from halfcuts.fates import drawing_cycles, fate, pull, repelling_cycles, returning, shares
from halfcuts.loops import is_loop, loop_between, rotation, turn_loop
from halfcuts.moments import have_common_tail, is_before, letters, moments_at, plain, value
from halfcuts.moving import can_take, edit_taking
from halfcuts.orders import cycle_lengths, drawn_piece, is_drawn, is_permuted, order, permuted_cut
from halfcuts.readings import read_edit, read_moment
from halfcuts.texts import show_edit, show_moment
from halfcuts.words import common_cut, cut_with, halved, is_cut, piece_of
from tests.plainly import CLOCK, LONG_CYCLES, moved, piece_moved, piece_way, plainly, turned
from tests.samples import all_moments

FAR = 10 ** 30


class WholeTest(unittest.TestCase):
    def test_one_edit_through_all_parts(self):
        # 0 and 10 change places, and what is behind 11 grows into itself.
        edit = read_edit("0>10 10>0 110>11000 1110>11001 11110>1101 11111>111")
        self.assertEqual(len(edit), 6)
        self.assertEqual((order(edit), permuted_cut(edit)), (None, None))
        piece, steps, rest = drawn_piece(edit)
        self.assertIs(is_drawn(edit, piece, steps, rest), True)
        self.assertEqual(piece_way(edit.pairs, piece, steps), piece + rest)
        back, drawn = shares(edit)
        self.assertEqual((back, drawn), ((3, 4), [(1, 4)]))
        [cycle] = drawing_cycles(edit)
        [other] = repelling_cycles(edit)
        self.assertEqual((cycle, other), ([("11", "0")], [("", "1")]))
        self.assertEqual(returning(edit, 1), ([], [("11", "0"), ("", "1")]))
        self.assertEqual(returning(edit, 2), (["0", "10"], []))
        moment = read_moment("1111(10)")
        self.assertEqual(fate(edit, moment), ("drawn", cycle))
        self.assertEqual((pull(edit, cycle[0]), pull(edit, other[0])), (-2, 2))
        self.assertEqual(letters_after(edit, moment, FAR, 0, 8), "11000000")
        self.assertEqual(share(edit, moment, "1100"), (1, 1))
        late = first_visit(edit, moment, "1100")
        self.assertEqual(visits(edit, moment, "1100", FAR), FAR - late)
        way = [moment]
        for _ in range(40):
            way.append(moved(edit.pairs, way[-1]))
        self.assertEqual([letters(there, 0, 4) == "1100" for there in way].index(True), late)
        clip = Clip.of_texts([show_edit(edit)] * 3)
        self.assertEqual(clip.edit, power(edit, 3))

    def test_an_edit_with_an_order_through_all_parts(self):
        edit = read_edit("00>01 01>1 1>00")
        self.assertEqual((order(edit), permuted_cut(edit), cycle_lengths(edit)), (3, ["00", "01", "1"], [3]))
        self.assertIs(is_permuted(edit, permuted_cut(edit)), True)
        self.assertEqual((kind_of(edit), rotation(edit)), ("loop", (1, 3)))
        turn = turn_loop(1, 3)
        between = loop_between(edit, turn)
        self.assertEqual(-between + edit + between, turn)
        self.assertIs(are_alike(edit, -edit), True)
        self.assertIsNone(loop_between(edit, -edit))
        between = edit_between(edit, -edit)
        self.assertEqual(-between + edit + between, -edit)
        self.assertEqual(power(root(edit, 3), 3), edit)
        self.assertEqual(order(root(edit, 3)), 9)
        first, second = two_swaps(edit)
        self.assertEqual(first + second, edit)

    def test_all_edits_of_three_pairs(self):
        edits = list(all_edits(3, "shuffle"))
        self.assertEqual(len(edits), count_edits(3, "shuffle"))
        self.assertEqual(len([edit for edit in edits if is_loop(edit)]), count_edits(3, "loop"))
        for edit in edits:
            self.assertEqual(read_edit(show_edit(edit)), edit)
            # [9]: either an order and a permuted cut, or a piece that is drawn.
            self.assertIs(order(edit) is None, drawn_piece(edit) is not None)
            self.assertIs(order(edit) is None, permuted_cut(edit) is None)
            # [11]: common tails, and an edit that takes the one moment to the other one.
            for moment in all_moments(1, 2):
                goal = edit(moment)
                self.assertIs(have_common_tail(moment, goal), True)
                self.assertIs(can_take([(moment, goal)]), True)
                self.assertEqual(edit_taking([(moment, goal)])(moment), goal)

    def test_words_and_moments(self):
        cut = common_cut(cut_with(["010"]), halved(["0", "1"], "1"))
        self.assertIs(is_cut(cut), True)
        for moment in all_moments(2, 3):
            top, bottom = value(moment)
            self.assertIn(plain(moment), moments_at(top, bottom))
            self.assertEqual(read_moment(show_moment(moment)), plainly(moment))
            self.assertTrue(letters(moment, 0, 3).startswith(piece_of(cut, moment)))
        self.assertIs(is_before(*moments_at(1, 2)), True)


class ReturnedTest(unittest.TestCase):
    """[2]: where a returned edit may be passed on, whatever its size."""

    def large(self):
        clock, long = Edit(CLOCK), Edit(LONG_CYCLES[1])
        swaps = two_swaps(clock)
        heads = ["01" * 30, "0" * 60, "1" * 60, "10" * 30]
        return [
            root(clock, 6), root(long, 6), edit_between(clock, -clock), *swaps, power(long, 7), clock + long,
            edit_taking([((head, "001"), (head[:-1] + "11", "010")) for head in heads]),
        ]

    def test_where_returned_edits_are_passed_on(self):
        sizes = []
        for edit in self.large():
            pairs = edit.pairs
            sizes.append(len(pairs))
            self.assertEqual(Edit(pairs), edit)
            self.assertEqual((-edit).pairs, turned(pairs))
            self.assertEqual(edit + -edit, identity())
            self.assertIs(is_loop(edit), kind_of(edit) != "shuffle")
            self.assertEqual(show_edit(edit).count(">"), len(pairs))
            for moment in all_moments(2, 2)[::5]:
                self.assertEqual(edit(moment), moved(pairs, moment))
            for source, target in pairs[::9]:
                self.assertEqual(image(edit, source + "01"), target + "01")
                self.assertEqual(image(edit, source[:-1]), piece_moved(pairs, source[:-1]))
            targets = edit.targets
            self.assertIs(is_permuted(edit, targets), sorted(edit.sources) == targets)
            self.assertIs(is_drawn(edit, pairs[0][0], 1, "0"), pairs[0][1] == pairs[0][0] + "0")
            self.assertEqual(power(edit, 2), edit + edit)
            self.assertEqual(power(edit, 12) + power(edit, -12), identity())
        self.assertGreater(max(sizes), 250)


if __name__ == "__main__":
    unittest.main()
