"""Point 4: names of places and sets, and frames."""

import copy
import string
import unittest

from setsays.names import is_frame, is_place, is_set

FIGURES = ("", "0", "1", "7", "9", "00", "07", "12", "99", "000", "007", "123", "999")
TOO_MANY = ("0000", "1234", "9999", "12345")
# Signs of the usual row, and letters and figures of other scripts (Arabic, raised, wide, Roman, circled).
OTHER_SIGNS = (
    " ", "\n", "\r", "\t", "\0", "_", "-", "+", ".", ",", ";", "'", "(", ")", "`", "{", "@", "[", "/", ":", "~",
    "\u00e9", "\u00c9", "\u00df", "\u0430", "\u0410", "\u03b1", "\uff58", "\uff38", "\u00aa", "\u0130", "\u212a",
    "\u0661", "\u00b2", "\uff11", "\u2160", "\u2460", "\u00bd", "\u0301", "\u00a0", "\u2028", "\u200b", "\ufeff",
    "\ud800", "\U0001d431", "\U0001d7d8",
)


def other_kinds():
    ring = []
    ring.append(ring)
    return [
        None, True, False, 0, 1, -1, 5, 10 ** 40, 1.5, b"x", bytearray(b"X"), (), [], {}, set(), frozenset("x"),
        ["x"], ["X"], ("x",), ("X",), {"x": "X"}, {"X"}, ["x", "1"], ("x", "1"), ring, (ring,), object(), str, len,
        range(3), iter("x"),
    ]


class NamesTest(unittest.TestCase):

    def check(self, thing, place, great):
        with self.subTest(repr(thing)):
            self.assertIs(is_place(thing), place)
            self.assertIs(is_set(thing), great)

    def test_every_letter_with_none_to_three_figures(self):
        for figures in FIGURES:
            for letter in string.ascii_lowercase:
                self.check(letter + figures, True, False)
            for letter in string.ascii_uppercase:
                self.check(letter + figures, False, True)

    def test_four_figures_or_more_are_too_many(self):
        for figures in TOO_MANY:
            for letter in "axzAXZ":
                self.check(letter + figures, False, False)

    def test_two_letters(self):
        for text in ("xy", "xx", "XY", "XX", "xX", "Xx", "x1y", "X1Y", "x1Y", "xy1", "XY1", "in", "IN"):
            self.check(text, False, False)

    def test_a_figure_first(self):
        for text in ("0", "1", "12", "1x", "1X", "12x", "123", "0x1", "1234"):
            self.check(text, False, False)

    def test_the_text_without_signs(self):
        self.check("", False, False)

    def test_another_sign_put_in_at_any_place(self):
        for name in ("x", "x1", "x12", "x123", "X", "X1", "X12", "X123"):
            for sign in OTHER_SIGNS:
                for at in range(len(name) + 1):
                    self.check(name[:at] + sign + name[at:], False, False)

    def test_another_sign_in_the_place_of_one(self):
        for name in ("x", "x1", "x12", "x123", "X", "X1", "X12", "X123"):
            for sign in OTHER_SIGNS:
                for at in range(len(name)):
                    self.check(name[:at] + sign + name[at + 1:], False, False)

    def test_of_all_signs_only_the_told_ones(self):
        signs = [chr(code) for code in range(0x11000)]
        self.assertEqual("".join(s for s in signs if is_place(s)), string.ascii_lowercase)
        self.assertEqual("".join(s for s in signs if is_set(s)), string.ascii_uppercase)
        self.assertEqual("".join(s for s in signs if is_place("x" + s)), string.digits)
        self.assertEqual("".join(s for s in signs if is_set("X" + s)), string.digits)

    def test_long_texts(self):
        for text in ("x" * 5000, "1" * 5000, "x" + "1" * 5000, "X" + "1" * 5000):
            self.assertIs(is_place(text), False)
            self.assertIs(is_set(text), False)

    def test_other_kinds(self):
        for thing in other_kinds():
            self.check(thing, False, False)

    def test_the_same_answer_each_time(self):
        for name in ("x", "X", "x1234", "", None):
            self.assertEqual([is_place(name)] * 3, [is_place(name) for time in range(3)])
            self.assertEqual([is_set(name)] * 3, [is_set(name) for time in range(3)])


class FramesTest(unittest.TestCase):

    def check(self, thing, frame):
        with self.subTest(repr(thing)):
            self.assertIs(is_frame(thing), frame)

    def test_none_to_four_names(self):
        self.check([], True)
        for names in (["x"], ["X"], ["x123"], ["X000"]):
            self.check(names, True)
        for names in (["x", "y"], ["x", "X"], ["X", "x"], ["x", "x1"], ["x1", "x01"], ["X", "Y"]):
            self.check(names, True)
        for names in (["x", "y", "X"], ["x", "x0", "x00"], ["A", "B", "C"]):
            self.check(names, True)
        for names in (["x", "y", "X", "Y"], ["X3", "x3", "Y3", "y3"], ["x", "x1", "x12", "x123"]):
            self.check(names, True)

    def test_five_names_are_too_many(self):
        self.check(["x", "y", "z", "X", "Y"], False)
        self.check(["A", "B", "C", "D", "E"], False)
        self.check(["a", "b", "c", "d", "e", "f"], False)
        self.check(["x"] * 5, False)

    def test_a_name_twice(self):
        for names in (["x", "x"], ["X", "X"], ["x", "y", "x"], ["x1", "X", "Y", "x1"], ["X", "x", "y", "y"]):
            self.check(names, False)

    def test_a_thing_among_them_that_is_no_name(self):
        for thing in other_kinds() + ["", "x1234", "xy", "1", " x", "x ", "x\n", "\u00e9", "x\u0661"]:
            self.check([thing], False)
            for at in range(4):
                names = ["x", "X", "y"]
                names.insert(at, thing)
                self.check(names, False)

    def test_what_is_no_list(self):
        for thing in ((), ("x",), ("x", "y"), ("x", "y", "X", "Y"), "", "x", "xX", {"x": 0}, {}, {"x"}, set(),
                      frozenset(["x"]), iter(["x"]), None, True, False, 0, 4, 1.5, b"x", object(), list):
            self.check(thing, False)

    def test_the_frame_stays_as_it_was(self):
        for thing in ([], ["x", "X"], ["x", "x"], ["x", ["y"]], ["a", "b", "c", "d", "e"]):
            before = copy.deepcopy(thing)
            first = is_frame(thing)
            self.assertEqual(thing, before)
            self.assertIs(is_frame(thing), first)


if __name__ == "__main__":
    unittest.main()
