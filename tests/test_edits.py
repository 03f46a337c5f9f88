import unittest
from itertools import product

from halfcuts.edits import Edit, identity, image, kind_of, power
from halfcuts.errors import InvalidExponent, InvalidMoment, InvalidPairs, InvalidWord
from halfcuts.moments import have_common_tail, moments_at
from halfcuts.orders import order
from tests.plainly import CLOCK, FOUR, LONG_CYCLES, SMALL, all_pairs, moved, piece_moved, plainly, some_pairs, turned
from tests.samples import NO_MOMENTS, NO_WORDS, all_cuts, all_moments, all_words, raised

FAR = 10 ** 30
GROW = [("00", "0"), ("01", "10"), ("1", "11")]
TURN = [("0", "10"), ("10", "11"), ("11", "0")]
# Twelve pairs as they are passed, of which each half has those of one long way down.
DOWN = ["1" * many + "0" for many in range(11)] + ["1" * 11]
TWELVE = [list(zip(DOWN, DOWN[::-1])), list(zip(DOWN, DOWN[5:] + DOWN[:5]))] + some_pairs(1, 12, 30)
# A cut with words of up to twenty signs.
TWENTY = ["0" * many + "1" for many in range(20)] + ["0" * 20]
MOMENTS = all_moments(3, 3)
LONG_MOMENTS = [("01" * 30, "001011010001"), ("1" * 60, "000000000001"), ("", "111111111111"), ("0" * 60, "1")]


class Equal:
    """Equal to anything, if it is asked."""

    def __eq__(self, other):
        return True


class ExampleTest(unittest.TestCase):
    def test_the_example_of_the_document(self):
        grow = Edit([('00', '0'), ('01', '10'), ('1', '11')])
        turn = Edit([('0', '10'), ('10', '11'), ('11', '0')])
        self.assertEqual(
            [(grow + turn).pairs, (-grow).pairs, kind_of(grow), kind_of(turn), grow(('', '01')), image(grow, '0'),
             image(grow, '011'), power(turn, 10 ** 30).pairs == turn.pairs],
            [[('0', '1'), ('1', '0')], [('0', '00'), ('10', '01'), ('11', '1')], 'retime', 'loop', ('10', '01'), None,
             '101', True])


class PairsTest(unittest.TestCase):
    def test_reduced_pairs_stay(self):
        self.assertEqual([len(all_pairs(many)) for many in (1, 2, 3, 4)], [1, 1, 20, 530])
        for pairs in SMALL + FOUR:
            self.assertEqual(Edit(pairs).pairs, pairs)

    def test_any_order(self):
        for pairs in SMALL + FOUR + TWELVE:
            for other in [pairs[::-1], pairs[1:] + pairs[:1], sorted(pairs, key=lambda pair: pair[1])]:
                self.assertEqual(Edit(other).pairs, Edit(pairs).pairs)

    def test_halved_pairs(self):
        for pairs in SMALL + FOUR[::7]:
            halved = pairs
            for place in (0, 1, 2, 0, 3):
                source, target = halved[place % len(halved)]
                halved = halved[:place % len(halved)] + halved[place % len(halved) + 1:]
                halved = halved + [(source + "1", target + "1"), (source + "0", target + "0")]
                self.assertEqual(Edit(halved).pairs, pairs)

    def test_the_identity_in_many_pairs(self):
        for cut in all_cuts(3) + [DOWN, TWENTY]:
            self.assertEqual(Edit([(word, word) for word in cut]).pairs, [("", "")])
        self.assertEqual(Edit([("", "")]).pairs, [("", "")])
        self.assertEqual(identity().pairs, [("", "")])

    def test_only_halves_in_their_order_are_joined(self):
        for pairs in [[("0", "1"), ("1", "0")], [("00", "0"), ("01", "10"), ("1", "11")],
                      [("00", "01"), ("01", "10"), ("10", "11"), ("11", "00")]]:
            self.assertEqual(Edit(pairs).pairs, pairs)

    def test_twelve_pairs_and_words_of_twenty_signs(self):
        self.assertEqual(len(Edit(TWELVE[0])), 12)
        self.assertEqual(Edit(TWELVE[0]).pairs, sorted(TWELVE[0]))
        deep = Edit(list(zip(TWENTY, TWENTY[::-1])))
        self.assertEqual(deep.pairs, sorted(zip(TWENTY, TWENTY[::-1])))
        self.assertEqual(deep(("0" * 60, "1")), ("1" + "0" * 40, "1"))
        self.assertEqual(deep + deep, Edit([(word, word) for word in TWENTY]))

    def test_sources_targets_and_length(self):
        for pairs in SMALL + FOUR:
            edit = Edit(pairs)
            self.assertEqual(edit.sources, [source for source, _ in pairs])
            self.assertEqual(edit.targets, sorted(target for _, target in pairs))
            self.assertEqual(len(edit), len(pairs))
        self.assertEqual(len(Edit([("00", "00"), ("01", "01"), ("1", "1")])), 1)

    def test_properties(self):
        for name in ["pairs", "sources", "targets"]:
            self.assertIsInstance(Edit.__dict__[name], property)

    def test_by_name(self):
        self.assertEqual(Edit(pairs=GROW).pairs, GROW)


class WrongPairsTest(unittest.TestCase):
    def test_strings_that_are_no_words(self):
        for word in NO_WORDS:
            for index in range(3):
                for side in range(2):
                    pairs = [list(pair) for pair in GROW]
                    pairs[index][side] = word
                    wrong = [tuple(pair) for pair in pairs]
                    self.assertEqual(raised(InvalidPairs, Edit, wrong), index, wrong)

    def test_the_first_wrong_pair_comes_first(self):
        self.assertEqual(raised(InvalidPairs, Edit, [("0", "0"), ("1", "2"), ("3", "1")]), 1)
        self.assertEqual(raised(InvalidPairs, Edit, [("0", "0"), ("3", "1"), ("1", "2")]), 1)
        self.assertEqual(raised(InvalidPairs, Edit, [("a", "b"), ("a", "b")]), 0)
        self.assertEqual(raised(InvalidPairs, Edit, [("", "")] * 11 + [("", "x")]), 11)

    def test_words_come_before_cuts(self):
        self.assertEqual(raised(InvalidPairs, Edit, [("0", "0"), ("0", "0"), ("1", "2")]), 2)
        self.assertEqual(raised(InvalidPairs, Edit, [("0", "0"), ("", "-")]), 1)

    def test_no_cut(self):
        wrong = [
            [], [("0", "0")], [("", "0")], [("0", "")], [("0", "0"), ("0", "1")], [("0", "1"), ("1", "1")],
            [("", ""), ("", "")], [("0", "0"), ("1", "1"), ("1", "1")], [("0", "0"), ("1", "1"), ("", "")],
            [("00", "0"), ("01", "1"), ("1", "1")], [("0", "0"), ("1", "10")], [("00", "0"), ("1", "1")],
            [("0", "0"), ("1", "1"), ("10", "10")], GROW[:2], GROW + GROW[:1], [("0" * 20, "0"), ("1", "1")],
            list(zip(DOWN[:-1] + ["1" * 20], DOWN)), list(zip(DOWN, DOWN[:-1] + ["1" * 20])),
        ]
        for pairs in wrong:
            self.assertIsNone(raised(InvalidPairs, Edit, pairs), pairs)
            self.assertIsNone(raised(InvalidPairs, Edit, [(target, source) for source, target in pairs]), pairs)

    def test_one_pair_missing_twice_or_longer(self):
        for pairs in SMALL + FOUR[::5]:
            for k in range(len(pairs)):
                self.assertIsNone(raised(InvalidPairs, Edit, pairs[:k] + pairs[k + 1:]))
                self.assertIsNone(raised(InvalidPairs, Edit, pairs + pairs[k:k + 1]))
                source, target = pairs[k]
                self.assertIsNone(raised(InvalidPairs, Edit, pairs[:k] + [(source + "0", target)] + pairs[k + 1:]))
                self.assertIsNone(raised(InvalidPairs, Edit, pairs[:k] + [(source, target + "1")] + pairs[k + 1:]))


class EqualTest(unittest.TestCase):
    def test_equal_if_the_reduced_pairs_are(self):
        edits = [Edit(pairs) for pairs in SMALL]
        for (k, first), (n, second) in product(enumerate(edits), repeat=2):
            self.assertIs(first == second, k == n)
            self.assertIs(first != second, k != n)
        self.assertIs(Edit([("00", "00"), ("01", "01"), ("1", "1")]) == identity(), True)
        self.assertIs(Edit(GROW[::-1]) == Edit(GROW), True)

    def test_not_equal_to_anything_else(self):
        for edit in [Edit(GROW), identity()]:
            for other in [edit.pairs, tuple(edit.pairs), "", None, 1, edit.sources, len(edit), Equal()]:
                self.assertIs(edit == other, False)
                self.assertIs(edit != other, True)


class ListsTest(unittest.TestCase):
    def test_arguments_stay_as_they_were(self):
        for pairs in [GROW[::-1], [("1", "1"), ("0", "0")], TWELVE[0][::-1]]:
            before = list(pairs)
            Edit(pairs)
            self.assertEqual(pairs, before)

    def test_the_list_that_it_is_made_of(self):
        for given in [list(GROW), GROW[::-1], [("1", "11"), ("000", "00"), ("001", "01"), ("01", "10")]]:
            edit = Edit(given)
            given[0] = ("", "")
            given.append(("2", "3"))
            del given[1]
            self.assertEqual(edit.pairs, GROW)
            self.assertEqual(edit(("", "01")), ("10", "01"))

    def test_the_lists_that_it_returns(self):
        edit = Edit(GROW)
        edit.pairs.append(("2", "3"))
        edit.pairs[0] = ("", "")
        edit.sources.append("2")
        edit.targets.reverse()
        self.assertEqual((edit.pairs, edit.sources, edit.targets), (GROW, ["00", "01", "1"], ["0", "10", "11"]))
        self.assertIsNot(edit.pairs, edit.pairs)
        self.assertIsNot(edit.sources, edit.sources)
        self.assertIsNot(edit.targets, edit.targets)
        other = identity()
        other.pairs.clear()
        self.assertEqual(identity().pairs, [("", "")])
        self.assertEqual((-edit + edit).pairs, [("", "")])
        self.assertEqual(edit.pairs, GROW)

    def test_sums_and_inverses_leave_the_edits(self):
        first, second = Edit(GROW), Edit(TURN)
        first + second
        -first
        first + first
        self.assertEqual((first.pairs, second.pairs), (GROW, TURN))


class CallTest(unittest.TestCase):
    def test_every_small_edit_and_short_moment(self):
        for pairs in SMALL + FOUR[::9]:
            edit = Edit(pairs)
            for moment in MOMENTS:
                self.assertEqual(edit(moment), moved(pairs, moment), (pairs, moment))

    def test_larger_edits_and_longer_moments(self):
        for pairs in TWELVE + LONG_CYCLES:
            edit = Edit(pairs)
            for moment in LONG_MOMENTS + [(word, "0") for word in DOWN] + MOMENTS[::40]:
                self.assertEqual(edit(moment), moved(pairs, moment), (pairs, moment))

    def test_plain_form(self):
        grow = Edit(GROW)
        self.assertEqual(grow(("00", "0")), ("", "0"))
        self.assertEqual(grow(("0", "1010")), ("10", "01"))
        self.assertEqual(grow(("1" * 60, "1")), ("", "1"))
        self.assertEqual(Edit(TURN)(("1", "11")), ("0", "1"))
        self.assertEqual(identity()(("01" * 30, "01")), ("", "01"))
        self.assertEqual(identity()(("1", "000000000000")), ("1", "0"))

    def test_sources_longer_than_head_and_ring(self):
        deep = Edit([("0" * 11, "1" * 11)] + [("0" * many + "1", "1" * many + "0") for many in range(11)])
        self.assertEqual(deep(("", "0")), ("1" * 11, "0"))
        self.assertEqual(deep(("", "00000001")), ("1" * 7 + "0", "00000001"))
        self.assertEqual(deep(("", "000000000001")), ("1" * 11, "100000000000"))

    def test_moments_that_are_returned(self):
        far = moments_at(1, 9941)[0]
        grow = Edit(GROW)
        self.assertEqual(grow(far), moved(GROW, far))
        moment = ("", "01")
        for _ in range(100):
            moment = grow(moment)
        self.assertEqual(moment, ("1" * 100 + "0", "01"))

    def test_common_tails(self):
        # [11]: an edit takes a moment only to one with a common tail.
        for pairs in SMALL + FOUR[::20]:
            edit = Edit(pairs)
            for moment in MOMENTS[::5]:
                self.assertIs(have_common_tail(moment, edit(moment)), True)

    def test_wrong_moments(self):
        for edit in [Edit(GROW), identity()]:
            for moment in NO_MOMENTS:
                self.assertEqual(raised(InvalidMoment, edit, moment), moment)
        self.assertEqual(Edit(GROW).pairs, GROW)


class SumTest(unittest.TestCase):
    def test_every_two_small_edits(self):
        edits = [(pairs, Edit(pairs)) for pairs in SMALL]
        for (pairs, first), (others, second) in product(edits, repeat=2):
            both = first + second
            self.assertEqual(Edit(both.pairs).pairs, both.pairs)
            for moment in MOMENTS[::11]:
                self.assertEqual(both(moment), moved(others, moved(pairs, moment)), (pairs, others, moment))

    def test_larger_edits(self):
        edits = [(pairs, Edit(pairs)) for pairs in TWELVE[:8] + LONG_CYCLES + FOUR[::90]]
        for (pairs, first), (others, second) in product(edits, repeat=2):
            both = first + second
            for moment in LONG_MOMENTS + MOMENTS[::80]:
                self.assertEqual(both(moment), moved(others, moved(pairs, moment)))
            for source, target in both.pairs:
                self.assertEqual(piece_moved(others, piece_moved(pairs, source + "0" * 12)), target + "0" * 12)

    def test_the_first_one_comes_first(self):
        grow, turn = Edit(GROW), Edit(TURN)
        self.assertNotEqual(grow + turn, turn + grow)
        self.assertEqual((grow + turn)(("", "0")), turn(grow(("", "0"))))

    def test_laws_of_sums(self):
        edits = [Edit(pairs) for pairs in SMALL[1::3] + FOUR[::99] + TWELVE[:2]]
        for first, second, third in product(edits[::2], repeat=3):
            self.assertEqual((first + second) + third, first + (second + third))
        for edit in edits:
            self.assertEqual(edit + identity(), edit)
            self.assertEqual(identity() + edit, edit)


class InverseTest(unittest.TestCase):
    def test_pairs_are_turned(self):
        for pairs in SMALL + FOUR:
            self.assertEqual((-Edit(pairs)).pairs, turned(pairs))
        for pairs in TWELVE + LONG_CYCLES:
            self.assertEqual((-Edit(pairs)).pairs, turned(Edit(pairs).pairs))

    def test_one_after_the_other_is_the_identity(self):
        for pairs in SMALL + FOUR + TWELVE:
            edit = Edit(pairs)
            self.assertEqual((edit + -edit).pairs, [("", "")])
            self.assertEqual((-edit + edit).pairs, [("", "")])
            self.assertEqual(-(-edit), edit)

    def test_inverse_of_a_sum(self):
        for pairs, others in product(SMALL, SMALL[::4]):
            first, second = Edit(pairs), Edit(others)
            self.assertEqual(-(first + second), -second + -first)

    def test_back_to_every_moment(self):
        for pairs in SMALL:
            edit = Edit(pairs)
            for moment in MOMENTS[::7]:
                self.assertEqual((-edit)(edit(moment)), plainly(moment))


class KindTest(unittest.TestCase):
    def expected(self, pairs):
        targets = [target for _, target in pairs]
        if pairs == [("", "")]:
            return "same"
        if targets == sorted(targets):
            return "retime"
        if any(targets[k:] + targets[:k] == sorted(targets) for k in range(len(targets))):
            return "loop"
        return "shuffle"

    def test_every_small_edit(self):
        for pairs in SMALL + FOUR:
            self.assertEqual(kind_of(Edit(pairs)), self.expected(pairs), pairs)

    def test_how_many_there_are(self):
        kinds = [[kind_of(Edit(pairs)) for pairs in all_pairs(many)] for many in (1, 2, 3, 4)]
        self.assertEqual([found.count("retime") for found in kinds], [0, 0, 2, 14])
        self.assertEqual([len(found) - found.count("shuffle") for found in kinds], [1, 1, 8, 66])

    def test_of_the_reduced_pairs(self):
        self.assertEqual(kind_of(Edit([("1", "1"), ("0", "0")])), "same")
        self.assertEqual(kind_of(identity()), "same")
        self.assertEqual(kind_of(Edit([("11", "01"), ("10", "00"), ("0", "1")])), "loop")
        self.assertEqual(kind_of(Edit(GROW[::-1])), "retime")

    def test_larger_edits(self):
        for pairs in TWELVE + LONG_CYCLES:
            self.assertEqual(kind_of(Edit(pairs)), self.expected(Edit(pairs).pairs))
        self.assertEqual(kind_of(power(Edit(GROW), 12)), "retime")

    def test_by_name(self):
        self.assertEqual(kind_of(edit=Edit(TURN)), "loop")


class ImageTest(unittest.TestCase):
    def test_every_small_edit_and_word(self):
        for pairs in SMALL + FOUR[::3]:
            edit = Edit(pairs)
            for word in all_words(5):
                self.assertEqual(image(edit, word), piece_moved(pairs, word), (pairs, word))

    def test_sources_are_those_of_the_reduced_pairs(self):
        self.assertEqual(image(Edit([("0", "0"), ("1", "1")]), ""), "")
        self.assertEqual(image(Edit([("00", "10"), ("01", "11"), ("1", "0")]), "0"), "1")
        self.assertIsNone(image(Edit(GROW), ""))
        self.assertIsNone(image(Edit(GROW), "0"))
        self.assertEqual(image(Edit(GROW), "00"), "0")
        self.assertEqual(image(Edit(GROW), "1"), "11")

    def test_larger_edits_and_longer_words(self):
        for pairs in TWELVE + LONG_CYCLES:
            edit = Edit(pairs)
            for source, _ in edit.pairs:
                for word in [source, source[:-1], source + "01" * 10, source[:-1] + "10" * 10]:
                    self.assertEqual(image(edit, word), piece_moved(edit.pairs, word))

    def test_wrong_words(self):
        for word in NO_WORDS:
            self.assertEqual(raised(InvalidWord, image, Edit(GROW), word), word)
            self.assertEqual(raised(InvalidWord, image, identity(), word), word)

    def test_by_name(self):
        self.assertEqual(image(word="1", edit=Edit(GROW)), "11")


class PowerTest(unittest.TestCase):
    def check_near(self, edit):
        forth, back = identity(), identity()
        for exponent in range(13):
            self.assertEqual(power(edit, exponent), forth)
            self.assertEqual(power(edit, -exponent), back)
            forth, back = forth + edit, back + -edit

    def test_near_exponents(self):
        for pairs in SMALL + FOUR[::8] + LONG_CYCLES + some_pairs(2, 7, 10):
            self.check_near(Edit(pairs))

    def test_larger_edits(self):
        for pairs in TWELVE[:4]:
            self.check_near(Edit(pairs))
        grow = Edit(GROW)
        far = power(power(grow, 12), 12)
        self.assertEqual(len(far), 146)
        self.assertEqual(far(("", "01")), ("1" * 144 + "0", "01"))
        self.assertEqual(power(far, -12) + power(far, 12), identity())
        self.assertEqual(image(power(far, 12), "1"), "1" * 1729)
        self.assertEqual(kind_of(power(far, -12)), "retime")

    def test_exponents_for_edits_without_order(self):
        found = 0
        for pairs in SMALL + FOUR[::8] + LONG_CYCLES:
            edit = Edit(pairs)
            if order(edit) is None:
                found += 1
                for exponent in [13, -13, 14, 100, FAR, -FAR, 10 ** 29 + 1]:
                    self.assertEqual(raised(InvalidExponent, power, edit, exponent), exponent)
                self.assertEqual(edit.pairs, pairs)
        self.assertGreater(found, 40)

    def test_exponents_for_edits_with_order(self):
        found = 0
        for pairs in SMALL + FOUR[::8] + LONG_CYCLES + some_pairs(3, 7, 30):
            edit = Edit(pairs)
            if order(edit) is not None:
                found += 1
                many = len(self.distinct_powers(edit))
                for exponent in [13, -13, many, -many, many + 1, 5 * many - 1, FAR, -FAR, FAR - 1, 1 - FAR]:
                    self.assertEqual(power(edit, exponent), power_by_sums(edit, exponent % many))
        self.assertGreater(found, 40)

    def distinct_powers(self, edit):
        found = [identity()]
        while found[-1] + edit != identity():
            found.append(found[-1] + edit)
        return found

    def test_the_clock(self):
        clock = Edit(CLOCK)
        self.assertEqual(power(clock, 64 * 10 ** 28), identity())
        self.assertEqual(power(clock, 64 * 10 ** 28 - 1), -clock)
        self.assertEqual(power(clock, FAR), identity())
        self.assertEqual(power(clock, FAR + 3), clock + clock + clock)
        deepest = [word for word in all_words(6) if len(word) == 6]
        last_turned = [(word, word[:5] + ("1" if word[5] == "0" else "0")) for word in deepest]
        self.assertEqual(power(clock, 32).pairs, last_turned)
        self.assertEqual(power(clock, 32 + 64 * 10 ** 20).pairs, last_turned)

    def test_powers_of_the_identity(self):
        for exponent in [0, 1, -1, 12, 13, -13, FAR, -FAR]:
            self.assertEqual(power(identity(), exponent).pairs, [("", "")])

    def test_by_name(self):
        self.assertEqual(power(exponent=2, edit=Edit(GROW)), Edit(GROW) + Edit(GROW))


def power_by_sums(edit, exponent):
    found = identity()
    for _ in range(exponent):
        found = found + edit
    return found


if __name__ == "__main__":
    unittest.main()
