import random
import unittest
from itertools import product

from halfcuts.clips import Clip
from halfcuts.edits import Edit, identity
from halfcuts.errors import InvalidMoment, NoMark, NothingToUndo, Unreadable
from halfcuts.moments import moments_at
from halfcuts.texts import show_edit
from tests.plainly import FOUR, SMALL, moved, plainly, some_pairs
from tests.samples import NO_MOMENTS, all_moments, raised

GROW = [("00", "0"), ("01", "10"), ("1", "11")]
TURN = [("0", "10"), ("10", "11"), ("11", "0")]
SWAP = [("0", "1"), ("1", "0")]
LONG = ("10" * 30, "001011010001")
MOMENTS = all_moments(2, 2) + [LONG]
NAMES = ["a", "end", "z" * 20, "ab", "aa", "b", "enda", "abcdefghijklmnopqrst"]
# Edits of twelve pairs as they are passed.
DOWN = ["1" * many + "0" for many in range(11)] + ["1" * 11]
TWELVE = [list(zip(DOWN, DOWN[::-1])), list(zip(DOWN, DOWN[3:] + DOWN[:3]))] + some_pairs(71, 12, 20)


class Told:
    """What a clip is to be, told step by step: all pairs applied, and the marks; with all that was before."""

    def __init__(self):
        self.applied, self.marks = [], {}
        self.past = []

    def apply(self, pairs):
        self.past.append((self.applied, self.marks))
        self.applied = self.applied + [pairs]
        self.marks = {name: moved(pairs, moment) for name, moment in self.marks.items()}

    def mark(self, name, moment):
        self.past.append((self.applied, self.marks))
        self.marks = {**self.marks, name: plainly(moment)}

    def undo(self):
        self.applied, self.marks = self.past.pop()

    def taken(self, moment):
        for pairs in self.applied:
            moment = moved(pairs, moment)
        return plainly(moment)


class Equal:
    """Equal to anything, if it is asked."""

    def __eq__(self, other):
        return True


def state(clip):
    return clip.edit.pairs, [(name, clip.where(name)) for name in clip.names()]


def clip_with(*edits, **marks):
    """Return a clip with marks put at first and then edited."""
    clip = Clip()
    for name, moment in marks.items():
        clip.mark(name, moment)
    for pairs in edits:
        clip.apply(Edit(pairs))
    return clip


class ExampleTest(unittest.TestCase):
    def test_the_example_of_the_document(self):
        clip = Clip()
        clip.mark('end', ('', '01'))
        clip.apply(Edit([('00', '0'), ('01', '10'), ('1', '11')]))
        clip.apply(Edit([('0', '10'), ('10', '11'), ('11', '0')]))
        self.assertEqual([clip.where('end'), clip.edit.pairs, list(clip.names())],
                         [('1', '10'), [('0', '1'), ('1', '0')], ['end']])


class CallsTest(unittest.TestCase):
    def compare(self, clip, told):
        self.assertEqual(list(clip.names()), sorted(told.marks))
        for name, moment in told.marks.items():
            self.assertEqual(clip.where(name), moment)
        for moment in MOMENTS[::6]:
            self.assertEqual(clip.edit(moment), told.taken(moment))

    def test_some_calls_compared_with_what_they_do(self):
        chance = random.Random(72)
        edits = SMALL + FOUR[::40] + TWELVE
        for _ in range(40):
            clip, told = Clip(), Told()
            for _ in range(25):
                what = chance.random()
                if what < 0.4:
                    pairs = chance.choice(edits)
                    self.assertIsNone(clip.apply(Edit(pairs)))
                    told.apply(pairs)
                elif what < 0.7:
                    name, moment = chance.choice(NAMES), chance.choice(MOMENTS)
                    self.assertIsNone(clip.mark(name, moment))
                    told.mark(name, moment)
                elif told.past:
                    self.assertIsNone(clip.undo())
                    told.undo()
                else:
                    self.assertEqual(raised(NothingToUndo, clip.undo), 0)
                self.compare(clip, told)

    def test_a_hundred_calls(self):
        for edits in (TWELVE[:1], TWELVE[1:2], TWELVE, [GROW], SMALL):
            clip, told = Clip(), Told()
            clip.mark("a", LONG)
            clip.mark("b", ("", "0"))
            told.mark("a", LONG)
            told.mark("b", ("", "0"))
            for index in range(70):
                clip.apply(Edit(edits[index % len(edits)]))
                told.apply(edits[index % len(edits)])
            self.compare(clip, told)
            for _ in range(26):
                clip.undo()
                told.undo()
            self.compare(clip, told)

    def test_a_new_clip(self):
        clip = Clip()
        self.assertEqual(clip.edit, identity())
        self.assertEqual(list(clip.names()), [])
        self.assertEqual(raised(NothingToUndo, clip.undo), 0)
        self.assertEqual(raised(NoMark, clip.where, "a"), "a")

    def test_edits_one_after_the_other(self):
        for pairs, others in product(SMALL, SMALL[::3]):
            clip = clip_with(pairs, others)
            self.assertEqual(clip.edit, Edit(pairs) + Edit(others))
            for moment in MOMENTS[::9]:
                self.assertEqual(clip.edit(moment), moved(others, moved(pairs, moment)))

    def test_marks_are_put_where_a_moment_is_now(self):
        clip = clip_with(GROW)
        clip.mark("a", ("", "01"))
        self.assertEqual(clip.where("a"), ("", "01"))
        clip.apply(Edit(GROW))
        self.assertEqual(clip.where("a"), ("10", "01"))
        clip.mark("b", ("10", "01"))
        clip.apply(Edit(SWAP))
        self.assertEqual((clip.where("a"), clip.where("b")), (("00", "01"), ("00", "01")))

    def test_marks_under_the_same_name(self):
        clip = clip_with(GROW, a=("", "01"))
        clip.mark("a", ("", "1"))
        self.assertEqual((clip.where("a"), list(clip.names())), (("", "1"), ["a"]))
        clip.apply(Edit(SWAP))
        self.assertEqual(clip.where("a"), ("0", "1"))
        clip.undo()
        clip.undo()
        self.assertEqual((clip.where("a"), list(clip.names())), (("10", "01"), ["a"]))

    def test_marks_in_plain_form(self):
        clip = clip_with(a=("0", "10"))
        self.assertEqual(clip.where("a"), ("", "01"))
        clip.mark("b", ("1" * 60, "1" * 12))
        self.assertEqual(clip.where("b"), ("", "1"))
        far = moments_at(1, 9941)[0]
        clip.mark("c", far)
        self.assertEqual(clip.where("c"), far)


class UndoTest(unittest.TestCase):
    def test_one_call_after_the_other(self):
        clip = Clip()
        states = [state(clip)]
        for call in [lambda: clip.mark("a", ("", "01")), lambda: clip.apply(Edit(GROW)),
                     lambda: clip.mark("b", ("", "0")), lambda: clip.mark("a", ("1", "0")),
                     lambda: clip.apply(identity()), lambda: clip.apply(Edit(TURN))]:
            call()
            states.append(state(clip))
        for before in states[-2::-1]:
            clip.undo()
            self.assertEqual(state(clip), before)
        self.assertEqual(raised(NothingToUndo, clip.undo), 0)
        self.assertEqual(state(clip), states[0])

    def test_calls_behind_an_undo(self):
        clip = clip_with(GROW, TURN)
        clip.undo()
        clip.apply(Edit(SWAP))
        self.assertEqual(clip.edit, Edit(GROW) + Edit(SWAP))
        clip.undo()
        self.assertEqual(clip.edit, Edit(GROW))
        clip.undo()
        self.assertEqual(clip.edit, identity())
        self.assertEqual(raised(NothingToUndo, clip.undo), 0)
        clip.mark("a", ("", "0"))
        clip.undo()
        self.assertEqual(list(clip.names()), [])
        self.assertEqual(raised(NothingToUndo, clip.undo), 0)

    def test_the_same_once_more_is_a_call_too(self):
        clip = clip_with(a=("", "01"))
        clip.mark("a", ("", "01"))
        clip.apply(identity())
        clip.undo()
        clip.undo()
        self.assertEqual(clip.where("a"), ("", "01"))
        clip.undo()
        self.assertEqual(raised(NoMark, clip.where, "a"), "a")

    def test_behind_refused_calls(self):
        clip = clip_with(GROW, a=("", "01"))
        before = state(clip)
        for moment in NO_MOMENTS:
            self.assertEqual(raised(InvalidMoment, clip.mark, "b", moment), moment)
            self.assertEqual(raised(InvalidMoment, clip.mark, "a", moment), moment)
        self.assertEqual(raised(NoMark, clip.where, "b"), "b")
        self.assertEqual(state(clip), before)
        clip.undo()
        self.assertEqual((clip.edit, clip.where("a")), (identity(), ("", "01")))
        clip.undo()
        self.assertEqual(clip, Clip())
        self.assertEqual(raised(NothingToUndo, clip.undo), 0)
        self.assertEqual(raised(NothingToUndo, clip.undo), 0)
        self.assertEqual(clip, Clip())

    def test_two_clips_are_undone_apart(self):
        one, two = clip_with(GROW), clip_with(TURN, SWAP)
        one.undo()
        self.assertEqual((one.edit, two.edit), (identity(), Edit(TURN) + Edit(SWAP)))
        self.assertEqual(raised(NothingToUndo, one.undo), 0)
        two.undo()
        self.assertEqual(two.edit, Edit(TURN))


class NamesTest(unittest.TestCase):
    def test_ascending(self):
        clip = Clip()
        for name in NAMES:
            clip.mark(name, ("", "0"))
        self.assertEqual(list(clip.names()), sorted(NAMES))
        clip.apply(Edit(SWAP))
        self.assertEqual(list(clip.names()), sorted(NAMES))

    def test_two_walks_at_the_same_time(self):
        clip = clip_with(b=("", "0"), a=("", "1"), c=("", "0"))
        self.assertEqual([(one, two) for one in clip.names() for two in clip.names()], list(product("abc", repeat=2)))
        first, second = iter(clip.names()), iter(clip.names())
        self.assertEqual([next(first), next(first), next(second), next(first), next(second)], list("abacb"))

    def test_walks_of_two_clips(self):
        one, two = clip_with(b=("", "0"), a=("", "1")), clip_with(d=("", "0"), c=("", "1"))
        self.assertEqual(list(zip(one.names(), two.names())), [("a", "c"), ("b", "d")])

    def test_names_that_there_are_not(self):
        clip = clip_with(end=("", "0"))
        for name in ["en", "endd", "x", "z" * 20]:
            self.assertEqual(raised(NoMark, clip.where, name), name)
        self.assertEqual(list(clip.names()), ["end"])


class EqualTest(unittest.TestCase):
    def test_the_same_by_other_calls(self):
        one = clip_with(GROW, TURN, a=("", "01"))
        two = clip_with(SWAP)
        two.mark("b", ("", "0"))
        two.undo()
        two.mark("a", ("1", "10"))
        self.assertIs(one == two, True)
        self.assertIs(one != two, False)
        one.undo()
        self.assertIs(one == two, False)
        self.assertIs(Clip() == Clip(), True)
        self.assertIs(clip_with(a=("", "0"), b=("", "1")) == clip_with(b=("1", "1"), a=("0", "0")), True)

    def test_what_differs(self):
        clips = [Clip(), clip_with(GROW), clip_with(TURN), clip_with(a=("", "0")), clip_with(b=("", "0")),
                 clip_with(a=("", "1")), clip_with(GROW, a=("", "0")), clip_with(a=("", "0"), b=("", "0"))]
        for (k, one), (n, two) in product(enumerate(clips), repeat=2):
            self.assertIs(one == two, k == n)
            self.assertIs(one != two, k != n)

    def test_what_is_no_clip(self):
        for clip in [Clip(), clip_with(GROW, a=("", "0"))]:
            for other in [None, 0, "", [], {}, clip.edit, clip.edit.pairs, identity(), Clip, ("", ""), Equal()]:
                self.assertIs(clip == other, False)
                self.assertIs(clip != other, True)


class OfTextsTest(unittest.TestCase):
    def test_edits_one_after_the_other(self):
        for pairs, others in product(SMALL[::2], SMALL[::3]):
            texts = [show_edit(Edit(pairs)), show_edit(Edit(others)), "->-"]
            clip = Clip.of_texts(texts)
            self.assertIs(clip.__class__, Clip)
            self.assertEqual(clip.edit, Edit(pairs) + Edit(others))
            self.assertEqual(clip, clip_with(pairs, others))
            self.assertEqual(list(clip.names()), [])

    def test_no_text(self):
        self.assertEqual(Clip.of_texts([]), Clip())
        self.assertEqual(raised(NothingToUndo, Clip.of_texts([]).undo), 0)

    def test_no_call_can_be_taken_back_at_first(self):
        clip = Clip.of_texts(["00>0 01>10 1>11", "0>1 1>0"])
        before = state(clip)
        self.assertEqual(raised(NothingToUndo, clip.undo), 0)
        self.assertEqual(state(clip), before)
        clip.apply(Edit(SWAP))
        clip.mark("a", ("", "0"))
        clip.undo()
        clip.undo()
        self.assertEqual(state(clip), before)
        self.assertEqual(raised(NothingToUndo, clip.undo), 0)

    def test_many_and_long_texts(self):
        texts = [show_edit(Edit(pairs)) for pairs in TWELVE + SMALL]
        expected = identity()
        for pairs in TWELVE + SMALL:
            expected = expected + Edit(pairs)
        self.assertEqual(Clip.of_texts(texts).edit, expected)

    def test_wrong_texts(self):
        good, bad, worse = "0>1 1>0", "0>0 1>1", " 0>1 1>0"
        for texts, value in [([bad], bad), ([good, bad], bad), ([good, worse, bad], worse), ([bad, worse, good], bad),
                             ([good, good, ""], ""), (["->-", "->- "], "->- ")]:
            before = list(texts)
            self.assertEqual(raised(Unreadable, Clip.of_texts, texts), value)
            self.assertEqual(texts, before)

    def test_the_list_that_is_passed(self):
        texts = ["00>0 01>10 1>11", "0>1 1>0"]
        clip = Clip.of_texts(texts)
        self.assertEqual(texts, ["00>0 01>10 1>11", "0>1 1>0"])
        texts.clear()
        self.assertEqual(clip.edit, Edit(GROW) + Edit(SWAP))


class ArgumentsTest(unittest.TestCase):
    def test_by_name(self):
        clip = Clip.of_texts(texts=["0>1 1>0"])
        clip.mark(moment=("", "0"), name="a")
        clip.apply(edit=Edit(SWAP))
        self.assertEqual((clip.where(name="a"), clip.edit), (("1", "0"), identity()))

    def test_edits_that_are_passed_and_returned(self):
        given = Edit(GROW)
        clip = clip_with(a=("", "01"))
        clip.apply(given)
        self.assertEqual(given.pairs, GROW)
        clip.edit.pairs.clear()
        clip.edit.sources.clear()
        self.assertEqual(clip.edit.pairs, GROW)
        clip.apply(Edit(SWAP))
        self.assertEqual(given.pairs, GROW)
        first = clip.edit
        clip.undo()
        self.assertEqual(first, given + Edit(SWAP))


if __name__ == "__main__":
    unittest.main()
