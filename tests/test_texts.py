import unittest
from itertools import product

from halfcuts.edits import Edit, identity, power
from halfcuts.errors import InvalidMoment, Unreadable
from halfcuts.moments import moments_at, plain
from halfcuts.readings import read_edit, read_moment
from halfcuts.texts import show_edit, show_moment
from tests.plainly import FOUR, LONG_CYCLES, SMALL, plainly, some_pairs
from tests.samples import NO_MOMENTS, all_moments, raised

GROW = [("00", "0"), ("01", "10"), ("1", "11")]
MOMENTS = all_moments(3, 4)
SIGNS = [chr(code) for code in range(ord(" "), ord("~") + 1)]


def told(pairs):
    """Return the text of reduced pairs."""
    return " ".join((source or "-") + ">" + (target or "-") for source, target in pairs)


EDIT_TEXTS = {told(pairs): pairs for pairs in SMALL + FOUR}
PLAIN = [moment for moment in MOMENTS if plainly(moment) == moment]
MOMENT_TEXTS = {head + "(" + ring + ")": (head, ring) for head, ring in PLAIN}


def with_one_sign_changed(text, signs):
    """Return all texts with a sign too few, one too many or another one at some place."""
    found = [text[:place] + text[place + 1:] for place in range(len(text))]
    for sign in signs:
        found.extend([text[:place] + sign + text[place:] for place in range(len(text) + 1)])
        found.extend([text[:place] + sign + text[place + 1:] for place in range(len(text))])
    return found


class ExampleTest(unittest.TestCase):
    def test_the_first_example_of_the_document(self):
        self.assertEqual(
            [show_edit(Edit([('1', '11'), ('00', '0'), ('01', '10')])), show_edit(identity()), show_moment(('1', '10')),
             show_moment(('0', '10'))],
            ['00>0 01>10 1>11', '->-', '1(10)', '(01)'])

    def test_the_second_example_of_the_document(self):
        self.assertEqual(raised(Unreadable, read_edit, '0>0 1>1'), '0>0 1>1')


class ShowEditTest(unittest.TestCase):
    def test_every_small_edit(self):
        for text, pairs in EDIT_TEXTS.items():
            self.assertEqual(show_edit(Edit(pairs)), text)

    def test_reduced_and_ascending(self):
        self.assertEqual(show_edit(Edit([("1", "1"), ("0", "0")])), "->-")
        self.assertEqual(show_edit(Edit([("11", "01"), ("0", "1"), ("10", "00")])), "0>1 1>0")
        for pairs in SMALL:
            halved = [(source + sign, target + sign) for source, target in pairs for sign in "10"]
            self.assertEqual(show_edit(Edit(halved[::-1])), told(pairs))

    def test_larger_edits(self):
        for pairs in LONG_CYCLES + [Edit(pairs).pairs for pairs in some_pairs(61, 12, 40)]:
            self.assertEqual(show_edit(Edit(pairs)), told(pairs))
        far = power(power(Edit(GROW), 12), 12)
        self.assertEqual(show_edit(far), told(far.pairs))

    def test_by_name(self):
        self.assertEqual(show_edit(edit=Edit(GROW)), "00>0 01>10 1>11")


class ShowMomentTest(unittest.TestCase):
    def test_every_short_moment(self):
        for moment in MOMENTS:
            head, ring = plainly(moment)
            self.assertEqual(show_moment(moment), head + "(" + ring + ")")

    def test_edges(self):
        self.assertEqual(show_moment(("", "0")), "(0)")
        self.assertEqual(show_moment(("1" * 60, "1" * 12)), "(1)")
        self.assertEqual(show_moment(("10" * 30, "001011010001")), "10" * 30 + "(001011010001)")
        far = moments_at(1, 9941)[0]
        self.assertEqual(show_moment(far), "(" + far[1] + ")")

    def test_wrong_moments(self):
        for moment in NO_MOMENTS:
            self.assertEqual(raised(InvalidMoment, show_moment, moment), moment)

    def test_by_name(self):
        self.assertEqual(show_moment(moment=("0", "10")), "(01)")


class ReadEditTest(unittest.TestCase):
    def check(self, text):
        """Compare with the texts of all edits of up to four pairs."""
        if text in EDIT_TEXTS:
            self.assertEqual(read_edit(text).pairs, EDIT_TEXTS[text])
        else:
            self.assertEqual(raised(Unreadable, read_edit, text), text)

    def test_every_small_edit(self):
        for text in EDIT_TEXTS:
            self.check(text)

    def test_every_text_of_few_signs(self):
        for many in range(8):
            for signs in product("01>- ", repeat=many):
                self.check("".join(signs))

    def test_one_sign_changed(self):
        for text in list(EDIT_TEXTS)[:22:3] + list(EDIT_TEXTS)[22::90]:
            for other in with_one_sign_changed(text, "01>- 2"):
                self.check(other)
        for other in with_one_sign_changed("00>0 01>10 1>11", SIGNS) + with_one_sign_changed("->-", SIGNS):
            self.check(other)

    def test_spaces(self):
        for text in ["->-", "0>1 1>0", "00>0 01>10 1>11"]:
            for other in [" " + text, text + " ", "  " + text, text.replace(">", "> "), text.replace(">", " >")]:
                self.check(other)
        for other in ["0>1  1>0", "0>1   1>0", "0>1 1 >0", "", " ", "  "]:
            self.check(other)

    def test_pairs_that_are_not_reduced_or_not_ascending(self):
        for pairs in SMALL + FOUR[::10]:
            for k in range(len(pairs)):
                source, target = pairs[k]
                halves = [(source + "0", target + "0"), (source + "1", target + "1")]
                self.check(told(pairs[:k] + halves + pairs[k + 1:]))
                self.check(told(pairs[k:] + pairs[:k]))
            self.check(told(sorted(pairs, key=lambda pair: pair[1])))
            self.check(told(pairs[::-1]))

    def test_no_edit(self):
        for text in ["0>1", "0>0 1>0", "0>1 0>1 1>0", "00>0 1>1", "0>1 1>0 1>0", "0>-", "->0", "->- ->-", "->->-",
                     "0>1>0", "0>1 1>0>", "0 1>0", "0>1,1>0", "0>1 1>2", "a>b", "0->1 1>0", "-0>1 1>0", ">", "-", "--",
                     "->", ">-", "00>0 01>10 1>", "00>- 01>1 1>0"]:
            self.check(text)

    def test_long_texts(self):
        down = ["1" * many + "0" for many in range(58)] + ["1" * 58]
        pairs = list(zip(down, down[1:] + down[:1]))
        text = told(pairs)
        self.assertTrue(3000 < len(text) <= 4000)
        self.assertEqual(read_edit(text).pairs, pairs)
        for other in [text[:-1], text + "0", text + " ", text[1:], text.replace(" ", "  "), text + "~"]:
            self.assertEqual(raised(Unreadable, read_edit, other), other)
        for sign in ["0", "1", ">", " ", "-", "(", "~", "0>0 ", "->- ", "0>1 1>0 ", "10"]:
            long = (sign * 4000)[:4000]
            self.assertEqual(raised(Unreadable, read_edit, long), long)

    def test_what_is_shown_is_read(self):
        for pairs in LONG_CYCLES + some_pairs(62, 12, 60) + some_pairs(63, 7, 60):
            edit = Edit(pairs)
            found = read_edit(show_edit(edit))
            self.assertEqual(found, edit)
            found.pairs.clear()
            self.assertEqual(found, edit)

    def test_by_name(self):
        self.assertEqual(read_edit(text="->-"), identity())
        self.assertEqual(raised(Unreadable, read_edit, text="-"), "-")


class ReadMomentTest(unittest.TestCase):
    def check(self, text):
        """Compare with the texts of all moments of short heads and rings."""
        if text in MOMENT_TEXTS:
            self.assertEqual(read_moment(text), MOMENT_TEXTS[text])
        else:
            self.assertEqual(raised(Unreadable, read_moment, text), text)

    def test_every_short_moment(self):
        for moment in MOMENTS:
            self.check(show_moment(moment))
            self.check(moment[0] + "(" + moment[1] + ")")

    def test_every_text_of_few_signs(self):
        # With five signs, heads have at most two and rings at most three.
        for many in range(6):
            for signs in product("01() ", repeat=many):
                self.check("".join(signs))

    def test_one_sign_changed(self):
        for text in ["(0)", "(01)", "1(10)", "01(0)", "0(011)"]:
            for other in with_one_sign_changed(text, SIGNS):
                self.check(other)

    def test_not_plain(self):
        for text in ["(00)", "(0101)", "0(0)", "0(10)", "01(01)", "1(01)", "10(0)", "11(1)", "001(0101)"]:
            self.check(text)

    def test_no_moment(self):
        for text in ["", "()", "0()", "0", "(0", "0)", ")0(", "((0))", "(0)(1)", "(0)1", "0(1)0", " (0)", "(0) ",
                     "( 0)", "(0 )", "0 (1)", "[0]", "(2)", "2(0)", "-(0)", "(-)", "(0(", "0(1", "0(1]", "0(1x", "(",
                     ")", "(0))"]:
            self.check(text)

    def test_long_texts(self):
        for moment in [("10" * 30, "001011010001"), ("0" * 1999 + "1", "0"), ("0" * 3996 + "1", "0"),
                       ("", "0" * 3997 + "1")]:
            text = moment[0] + "(" + moment[1] + ")"
            self.assertEqual(read_moment(text), moment)
            self.assertEqual(show_moment(moment), text)
            for other in [text[:-1], text[1:] if text[0] == "(" else "x" + text, text + ")", " " + text, text + "~"]:
                self.assertEqual(raised(Unreadable, read_moment, other), other)
        for long in ["0" * 4000, "(" * 4000, ")" * 4000, "~" * 4000, "(" + "0" * 3998 + ")", "(" + "01" * 1999 + ")"]:
            self.assertEqual(raised(Unreadable, read_moment, long), long)

    def test_what_is_shown_is_read(self):
        for moment in MOMENTS:
            self.assertEqual(read_moment(show_moment(moment)), plain(moment))

    def test_by_name(self):
        self.assertEqual(read_moment(text="1(10)"), ("1", "10"))
        self.assertEqual(raised(Unreadable, read_moment, text="1(1)"), "1(1)")


if __name__ == "__main__":
    unittest.main()
