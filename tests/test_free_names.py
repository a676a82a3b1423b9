"""The names in a saying's bare ones that no some or all round them tells."""

import copy
import unittest

from setsays.sayings import free_names

S = ("in", "x", "X")


class FreeNamesTest(unittest.TestCase):

    def check(self, saying, names):
        with self.subTest(saying=saying):
            found = free_names(saying)
            self.assertIsInstance(found, list)
            self.assertEqual(found, names)

    def test_bare_ones(self):
        self.check(("in", "x", "X"), ["x", "X"])
        self.check(("within", "Y", "X"), ["Y", "X"])
        for word in ("same", "ahead", "next", "left", "right", "above"):
            self.check((word, "y", "x"), ["y", "x"])
            self.check((word, "x", "y"), ["x", "y"])
            self.check((word, "x1", "x1"), ["x1"])

    def test_in_the_order_in_which_they_first_come(self):
        self.check(("and", ("in", "y", "Z"), ("in", "x", "A")), ["y", "Z", "x", "A"])
        self.check(("or", ("in", "x", "A"), ("in", "y", "Z")), ["x", "A", "y", "Z"])
        self.check(("and", ("not", ("same", "z", "b")), ("or", ("in", "a", "C"), ("within", "B", "A"))),
                   ["z", "b", "a", "C", "B", "A"])

    def test_each_once(self):
        self.check(("and", S, S), ["x", "X"])
        self.check(("or", ("same", "y", "x"), ("and", ("in", "x", "X"), ("in", "y", "X"))), ["y", "x", "X"])

    def test_told_names_are_not_free(self):
        for word in ("some", "all"):
            self.check((word, "x", S), ["X"])
            self.check((word, "X", S), ["x"])
            self.check((word, "y", S), ["x", "X"])
            self.check((word, "x", ("not", ("or", S, ("same", "y", "x")))), ["X", "y"])
            self.check((word, "x", (word, "X", S)), [])
            self.check((word, "X", ("and", (word, "x", S), ("in", "y", "X"))), ["y"])

    def test_told_in_one_part_and_free_in_another(self):
        for word in ("some", "all"):
            self.check(("and", (word, "x", S), S), ["X", "x"])
            self.check(("and", S, (word, "x", S)), ["x", "X"])
            self.check(("or", (word, "x", ("same", "x", "y")), ("same", "z", "x")), ["y", "z", "x"])
            self.check(("or", (word, "x", ("in", "x", "X")), (word, "X", ("in", "x", "X"))), ["X", "x"])

    def test_a_name_told_twice_round_each_other(self):
        self.check(("some", "x", ("and", ("all", "x", S), S)), ["X"])

    def test_names_of_either_sort_and_with_figures_are_kept_apart(self):
        self.check(("and", ("in", "x", "X"), ("in", "x1", "X1")), ["x", "X", "x1", "X1"])
        self.check(("some", "x", ("in", "x", "X")), ["X"])
        self.check(("some", "x1", ("in", "x", "X")), ["x", "X"])

    def test_more_names_than_a_frame_has(self):
        saying = ("in", "a", "A")
        for letter in "bcdefg":
            saying = ("and", saying, ("in", letter, letter.upper()))
        self.check(saying, list("aAbBcCdDeEfFgG"))

    def test_at_twelve_deep(self):
        saying = S
        for step in range(11):
            saying = ("not", saying)
        self.check(saying, ["x", "X"])

    def test_the_list_is_the_askers_own(self):
        saying = ("and", S, ("some", "y", ("in", "y", "Y")))
        before = copy.deepcopy(saying)
        one = free_names(saying)
        other = free_names(saying)
        self.assertIsNot(one, other)
        one.append("z")
        one[0] = "w"
        self.assertEqual(other, ["x", "X", "Y"])
        self.assertEqual(free_names(saying), ["x", "X", "Y"])
        other.clear()
        self.assertEqual(free_names(saying), ["x", "X", "Y"])
        self.assertEqual(saying, before)

    def test_an_empty_list_is_the_askers_own_too(self):
        closed = ("all", "x", ("same", "x", "x"))
        free_names(closed).append("z")
        self.assertEqual(free_names(closed), [])


if __name__ == "__main__":
    unittest.main()
