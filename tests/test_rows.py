"""Points 8 and 9: letters, rows, and the rows that fit a frame."""

import itertools
import unittest

from setsays.errors import NoRow
from setsays.rows import fits

FRAMES = (
    [], ["x"], ["X"], ["x", "y"], ["x", "X"], ["X", "x"], ["X", "Y"], ["x", "y", "X"], ["X", "y", "Y"],
    ["x", "y", "z"], ["X", "Y", "Z"], ["x", "X", "y", "Y"], ["a", "b", "c", "d"], ["A", "B", "C", "D"],
)


def fits_by_figures(frame, row):
    """By the letters' binary figures, written out, the worth 1 last."""
    written = [bin(16 + letter)[::-1] for letter in row]
    counts = [[figures[track] for figures in written].count("1") for track in range(len(frame))]
    return all(count == 1 for count, name in zip(counts, frame) if name[0].islower())


class FitsTest(unittest.TestCase):

    def check(self, frame, row, truth):
        with self.subTest(frame=frame, row=row):
            self.assertIs(fits(frame, row), truth)

    def check_refused(self, frame, row):
        with self.subTest(frame=frame, row=row):
            with self.assertRaises(ValueError) as caught:
                fits(frame, row)
            self.assertIs(caught.exception.__class__, NoRow)

    def test_a_frame_of_no_names(self):
        for length in (0, 1, 2, 5, 300):
            self.check([], [0] * length, True)

    def test_a_place_with_none_one_and_two_letters(self):
        for name in ("x", "z12"):
            for row in ([], [0], [0, 0, 0]):
                self.check([name], row, False)
            for row in ([1], [0, 1], [1, 0], [0, 0, 1, 0]):
                self.check([name], row, True)
            for row in ([1, 1], [1, 0, 1], [0, 1, 1], [1, 1, 1]):
                self.check([name], row, False)

    def test_sets_with_none_and_with_all(self):
        for row in ([], [0], [1], [0, 0], [1, 1], [0, 1, 0], [1] * 9, [0] * 9):
            self.check(["X"], row, True)
        for row in ([], [0, 0], [3, 3, 3], [0, 1, 2, 3]):
            self.check(["X", "Y"], row, True)
        for row in ([], [0] * 4, [15] * 4, list(range(16))):
            self.check(["A", "B", "C", "D"], row, True)

    def test_the_track_is_that_of_the_names_number(self):
        self.check(["x", "X"], [1], True)
        self.check(["x", "X"], [3], True)
        self.check(["x", "X"], [2], False)
        self.check(["X", "x"], [1], False)
        self.check(["X", "x"], [2], True)
        self.check(["X", "Y", "Z", "x"], [8], True)
        self.check(["X", "Y", "Z", "x"], [7], False)
        self.check(["X", "Y", "x", "Z"], [11, 11, 4], True)

    def test_several_places(self):
        self.check(["x", "y"], [3], True)
        self.check(["x", "y"], [1, 2], True)
        self.check(["x", "y"], [2, 0, 1], True)
        self.check(["x", "y"], [1], False)
        self.check(["x", "y"], [1, 3], False)
        self.check(["x", "y"], [1, 1], False)
        self.check(["a", "b", "c", "d"], [15], True)
        self.check(["a", "b", "c", "d"], [1, 8, 4, 2], True)
        self.check(["a", "b", "c", "d"], [1, 8, 4, 2, 1], False)
        self.check(["a", "b", "c", "d"], [1, 8, 4], False)

    def test_every_short_row(self):
        for frame in FRAMES:
            letters = range(2 ** len(frame))
            for length in range(4 if len(frame) < 4 else 3):
                for row in itertools.product(letters, repeat=length):
                    self.check(frame, list(row), fits_by_figures(frame, list(row)))

    def test_a_letter_that_is_none_at_any_place(self):
        for frame in FRAMES:
            above = 2 ** len(frame)
            for letter in (-1, -2, -above, -10 ** 40, above, above + 1, 2 * above, 16, 10 ** 40):
                self.check_refused(frame, [letter])
                for at in range(4):
                    row = [0, above - 1, 0]
                    row.insert(at, letter)
                    self.check_refused(frame, row)

    def test_the_greatest_letter_is_one(self):
        for frame in FRAMES:
            self.check(frame, [2 ** len(frame) - 1], True)

    def test_truths_are_no_letters(self):
        for truth in (True, False):
            self.check_refused(["X"], [truth])
            self.check_refused(["X"], [0, 1, truth])

    def test_refused_whether_the_letters_ahead_fit_or_not(self):
        self.check_refused(["x"], [1, 1, 2])
        self.check_refused(["x"], [0, 2])
        self.check_refused(["x"], [2, 1])

    def test_long_rows(self):
        self.check(["x", "X"], [2] * 150 + [3] + [0] * 149, True)
        self.check(["x", "X"], [2] * 150 + [3] + [0] * 148 + [1], False)
        self.check_refused(["x", "X"], [1] + [2] * 298 + [4])

    def test_frame_and_row_stay_as_they_were(self):
        for frame, row in ((["x", "X"], [0, 1, 2]), (["X", "x"], [3, 3]), ([], [0])):
            before = (list(frame), list(row))
            first = fits(frame, row)
            self.assertEqual((frame, row), before)
            self.assertIs(fits(frame, row), first)
        frame, row = ["x"], [0, 5, 1]
        self.check_refused(frame, row)
        self.assertEqual((frame, row), (["x"], [0, 5, 1]))


if __name__ == "__main__":
    unittest.main()
