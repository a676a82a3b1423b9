"""Point 31: lines, what they are answered by, and the order in which they are refused."""

import itertools
import random
import unittest

from setsays.asks import how_many, verdict
from setsays.built import built
from setsays.errors import NoFrame, NoLine, NoNumber, NoRow, NoSaying, NoText, SayError, TooGreat
from setsays.grown import tree_built, tree_verdict
from setsays.lines import said
from setsays.machines import takes
from setsays.rows import holds
from setsays.sayings import is_saying, is_tree_saying
from setsays.texts import shown
from tests.helpers import GREAT, ProgramCase, made_up_saying, rows_of
from tests.tree_helpers import TREE_GREAT, made_up_tree_saying

KNOWN = (
    ("takes x X ; x in X ; 2 3 0", "yes"),
    ("takes x X ; x in X ; 2 1 0", "no"),
    ("takes x X ; x in X ; 2 2", "no"),
    ("takes x X ; x in X ;", "no"),
    ("takes X ; all x x in X ;", "yes"),
    ("takes X ; all x x in X ; 1 1 0", "no"),
    ("takes ; some x some y x next y ; 0 0", "yes"),
    ("takes ; some x some y x next y ; 0", "no"),
    ("takes x y X Y ; (x in X and y in Y) ; 5 10", "yes"),
    ("takes x y X Y ; (x in X and y in Y) ; 9 6", "no"),
    ("always X ; X within X", "yes"),
    ("always ; all x all y (not x next y or x ahead y)", "yes"),
    ("always ; some x x same x", "no"),
    ("always X ; some x x in X", "no"),
    ("always x y ; (x ahead y or x same y)", "no 2 1"),
    ("always x X ; x in X", "no 1"),
    ("always x y X Y ; not ((x in X and y in Y) and x next y)", "no 5 10"),
    ("rooms X ; some x x in X", "2"),
    ("rooms X ; X within X", "1"),
    ("rooms x y ; x ahead y", "4"),
    ("rooms x y z w ; x same x", "17"),
    ("many X ; some x x in X ; 3", "7"),
    ("many X ; some x x in X ; 0", "0"),
    ("many X ; X within X ; 0", "1"),
    ("many X Y ; X within Y ; 2", "9"),
    ("many x y z w ; x same x ; 100", str(100 ** 4)),
    ("many A B C D ; A within A ; 100", str(16 ** 100)),
    ("treerooms X ; some x x in X", "2"),
    ("treerooms x ; x same x", "3"),
    ("treerooms ; not some x some y x left y", "3"),
    ("treealways x y ; (not x left y or x above y)", "yes"),
    ("treealways x y ; x above y", "no"),
    ("treealways ; some x x same x", "no"),
    ("treealways x y z ; (not (x above y and y above z) or x above z)", "yes"),
)

# Lines that are answered but for the one thing that is told of them.
NO_LINES = (
    "", " ", ";", ";;", " ; ; ", "; x in X", "take x X ; x in X ; 3", "Takes x X ; x in X ; 3", "TAKES ; ; ",
    "holds x X ; x in X ; 3", "x X ; x in X", "takesx X ; x in X ; 3", "takes, x ; x same x ; 1", "yes", "no",
    "treetakes x X ; x in X ; 3", "treemany X ; X within X ; 3", "tree rooms X ; X within X", "1",
    "(rooms X) ; X within X",
    "takes", "always", "rooms", "many", "treerooms", "treealways", "takes x X", "takes x X ; x in X",
    "takes x X ; x in X ; 3 ;", "takes x X ; x in X ; 3 ; 3", "always X", "always X ; X within X ;",
    "always X ; X within X ; 3", "rooms X", "rooms X ; X within X ;", "rooms X ; X within X ; ; ",
    "many X ; X within X",
    "many X ; X within X ; 3 ; 3", "many X ; X within X ; ; 3", "treerooms X", "treerooms X ; X within X ;",
    "treealways X",
    "treealways X ; X within X ; 1", "rooms X , X within X", "; rooms X ; X within X", "rooms ; X ; X within X",
)
NO_NAMES = ("x x", "x X x", "xy", "in", "x,", "1", "x1234", "x y z w v", "A B C D E", "x (", "all", "x.", "-x", "_")
NO_TEXTS = (
    "", " ", "x", "x in", "in x X", "x in X X", "x in x", "X in X", "(x in X)", "x is X", "not", "not not", "x X",
    "(x in X and x in X", "x in X)", "some x in X", "some in x in X", "x in X and x in X", "all X", "()", "1",
)
NO_ROWS = (
    "4", "-1", "+1", "01", "00", "1 01", "1000", "0001", "1 1000", "x", "1 x", "1,1", "1.", "1 2 3 4", "0x1", "1 -0",
    "--", "1 +", "_1", "1_0", "1e1", "999", "1  256", "(1)", "\"1\"", "'1'",
)
NO_LENGTHS = (
    "", "  ", "101", "102", "999", "1000", "0100", "01", "00", "000", "-1", "+1", "-0", "+0", "1.0", "x", "1 1", "1 ,",
    "3 0", "one", "1e1", "1_0", "0x1", "--1", "(1)",
)


class SaidCase(ProgramCase):

    def check(self, line, answer):
        with self.subTest(line=line):
            found = said(line)
            self.assertIs(found.__class__, str)
            self.assertEqual(found, answer)


class AnsweredTest(SaidCase):

    def test_known_ones(self):
        for line, answer in KNOWN:
            self.check(line, answer)

    def test_blanks_of_any_number(self):
        for line, answer in KNOWN:
            self.check(line.replace(" ", "   "), answer)
            self.check("  " + line + "    ", answer)
            self.check(line.replace(" ;", ";").replace("; ", ";"), answer)
            self.check(line.replace(";", "     ;  "), answer)
            self.check(line.replace("(", " ( ").replace(")", "  )"), answer)

    def test_letters_and_lengths_at_their_edges(self):
        for letter in range(16):
            self.check("takes A B C D ; A within A ; " + str(letter), "yes")
        for length in (0, 1, 9, 10, 99, 100):
            self.check("many X ; X within X ; " + str(length), str(2 ** length))
        self.check("takes X ; X within X ; " + " ".join(["1"] * 300), "yes")
        self.check("many ; some X X within X ; 0", "1")

    def test_names_of_all_sorts(self):
        self.check("rooms x0 x00 ; x0 ahead x00", "4")
        self.check("takes q123 Z999 ; q123 in Z999 ; 3", "yes")
        self.check("treerooms z9 A1 ; z9 in A1", "3")

    def test_the_order_of_the_names_is_that_of_the_tracks(self):
        self.check("takes x X ; x in X ; 1 2", "no")
        self.check("takes X x ; not x in X ; 1 2", "yes")
        self.check("always x y ; x next y", "no 3")
        self.check("always x y ; (x next y or x same y)", "no 2 1")
        self.check("always y x ; (x next y or x same y)", "no 1 2")

    def test_made_up_sayings_of_rows(self):
        chance = random.Random(31)
        verdicts = {"yes": 0, "no": 0}
        for time in range(120):
            frame = chance.sample(["x", "y", "X", "Y"], chance.randrange(4))
            saying = made_up_saying(chance, frame, chance.randrange(2, 6))
            if not is_saying(saying, frame):
                continue
            text = " ".join(frame) + " ; " + shown(saying)
            machine = built(saying, frame)
            self.check("rooms " + text, str(len(machine[2])))
            length = chance.randrange(0, 101)
            self.check("many " + text + ";" + str(length), str(how_many(machine, length)))
            for row in rows_of(len(frame), 2)[:8]:
                figures = " ".join([str(letter) for letter in row])
                self.check("takes " + text + " ; " + figures, "yes" if takes(machine, row) else "no")
                self.check("takes " + text + " ; " + figures, "yes" if holds(saying, frame, row) else "no")
            found = verdict(saying, frame)
            verdicts[found[0]] += 1
            self.check("always " + text, " ".join([found[0]] + [str(letter) for part in found[1:] for letter in part]))
        self.assertGreater(min(verdicts.values()), 10, verdicts)

    def test_made_up_sayings_of_trees(self):
        chance = random.Random(310)
        for time in range(60):
            frame = chance.sample(["x", "y", "X", "Y"], chance.randrange(4))
            saying = made_up_tree_saying(chance, frame, chance.randrange(2, 6))
            if is_tree_saying(saying, frame):
                text = " ".join(frame) + ";" + shown(saying)
                self.check("treerooms " + text, str(len(tree_built(saying, frame)[2])))
                self.check("treealways " + text, tree_verdict(saying, frame)[0])


class RefusedTest(SaidCase):

    def test_no_line(self):
        for line in NO_LINES:
            self.check_refused(NoLine, said, line)

    def test_no_frame(self):
        for names in NO_NAMES:
            for line in ("takes {} ; all u u same u ; 0", "always {} ; all u u same u", "rooms {} ; all u u same u",
                         "many {} ; all u u same u ; 0", "treerooms {} ; all u u same u",
                         "treealways {} ; all u u same u"):
                self.check_refused(NoFrame, said, line.format(names))

    def test_four_names_are_too_many_for_trees_alone(self):
        self.check("rooms x X y Y ; x same x", "5")
        for names in ("x X y Y", "A B C D", "x y z w"):
            for line in ("treerooms {} ; all u u same u", "treealways {} ; all u u same u", "treealways {} ; x",
                         "treerooms {} ; some x x next x"):
                self.check_refused(NoFrame, said, line.format(names))

    def test_no_text(self):
        for text in NO_TEXTS:
            for line in ("takes x X ; {} ; 3", "always x X ; {}", "rooms x X ; {}", "many x X ; {} ; 3",
                         "treerooms x X ; {}", "treealways x X ; {}"):
                self.check_refused(NoText, said, line.format(text))

    def test_no_saying(self):
        for line in ("takes x X ; {} ; 3", "always x X ; {}", "rooms x X ; {}", "many x X ; {} ; 3"):
            for text in ("y in X", "x in Y", "x left x", "x right x", "not x above x", "some x x in X", "all X x in X",
                         "some y some y x in X", "some y some z some w x in X"):
                self.check_refused(NoSaying, said, line.format(text))
        for line in ("treerooms x X ; {}", "treealways x X ; {}"):
            for text in ("y in X", "x in Y", "x ahead x", "not x next x", "some x x in X", "all X x in X",
                         "some y some z x in X"):
                self.check_refused(NoSaying, said, line.format(text))

    def test_no_row(self):
        for row in NO_ROWS:
            self.check_refused(NoRow, said, "takes x X ; x in X ; " + row)
            self.check_refused(NoRow, said, "takes x X;x in X;  0   " + row + "  3 ")
        self.check_refused(NoRow, said, "takes ; some X X within X ; 1")
        self.check_refused(NoRow, said, "takes A B C D ; A within A ; 16")

    def test_very_many_figures(self):
        for figures in ("1" * 4400, "0" * 4400, "9" * 20):
            self.check_refused(NoRow, said, "takes X ; X within X ; " + figures)
            self.check_refused(NoNumber, said, "many X ; X within X ; " + figures)

    def test_what_is_no_text(self):
        for thing in (None, 0, True, [], ["rooms"], (), {}, object()):
            self.check_refused(NoLine, said, thing)

    def test_no_number(self):
        for length in NO_LENGTHS:
            self.check_refused(NoNumber, said, "many x X ; x in X ; " + length)
            self.check_refused(NoNumber, said, "many x X;x in X;" + length + " ")

    def test_too_great(self):
        for frame, text in GREAT:
            names = " ".join(frame)
            for line in ("takes {} ; {} ; 0", "takes {} ; {} ;", "always {} ; {}", "rooms {} ; {}", "many {} ; {} ; 3"):
                self.check_refused(TooGreat, said, line.format(names, text))
        for frame, text in TREE_GREAT:
            for line in ("treerooms {} ; {}", "treealways {} ; {}"):
                self.check_refused(TooGreat, said, line.format(" ".join(frame), text))

    def test_each_goes_ahead_of_those_behind_it(self):
        frame, great = GREAT[0]
        names = " ".join(frame)
        # Each next thing is wrong in its turn; those ahead of it are right.
        for no_frame, no_text, no_saying, no_row in itertools.product((True, False), repeat=4):
            text = "x in" if no_text else "x left x" if no_saying else great
            error = (NoFrame if no_frame else NoText if no_text else NoSaying if no_saying
                     else NoRow if no_row else TooGreat)
            names_here = "x x" if no_frame else names
            self.check_refused(error, said, "takes {} ; {} ; {}".format(names_here, text, "7" if no_row else "1 0"))
            error = NoNumber if error == NoRow else error
            self.check_refused(error, said, "many {} ; {} ; {}".format(names_here, text, "101" if no_row else "7"))
            self.check_refused(NoLine, said, "many {} ; {} ; {} ; 1".format(names_here, text, "1"))
            self.check_refused(NoLine, said, "much {} ; {} ; {}".format(names_here, text, "1"))
            self.check_refused(NoLine, said, "rooms {} ; {} ; {}".format(names_here, text, "1"))

    def test_a_row_or_a_length_that_is_none_goes_ahead_of_too_great(self):
        for frame, text in GREAT:
            names = " ".join(frame)
            for row in ("-1", "01", str(2 ** len(frame)), "0 1000", "0 x", "16 0"):
                self.check_refused(NoRow, said, "takes {} ; {} ; {}".format(names, text, row))
            for length in NO_LENGTHS:
                self.check_refused(NoNumber, said, "many {} ; {} ; {}".format(names, text, length))

    def test_the_same_of_trees(self):
        frame, great = TREE_GREAT[0]
        names = " ".join(frame)
        for ask in ("treerooms", "treealways"):
            self.check_refused(TooGreat, said, "{} {} ; {}".format(ask, names, great))
            self.check_refused(NoSaying, said, "{} {} ; ({} and u ahead u)".format(ask, names, great))
            self.check_refused(NoText, said, "{} {} ; ({} and u ahead)".format(ask, names, great))
            self.check_refused(NoFrame, said, "{} {} u u ; ({} and u ahead)".format(ask, names, great))
            self.check_refused(NoLine, said, "{} {} u u ; ({} and u ahead) ;".format(ask, names, great))

    def test_each_is_a_refusal(self):
        for line in ("", "rooms 1 ; x", "rooms ; x", "rooms ; x in X", "takes ; some X X within X ; 1",
                     "many ; some X X within X ; 101"):
            with self.assertRaises(SayError):
                said(line)


class SameAnswerTest(SaidCase):

    def test_the_same_line_has_the_same_answer_each_time(self):
        first = [said(line) for line, answer in KNOWN]
        for line in NO_LINES:
            self.check_refused(NoLine, said, line)
        self.assertEqual([said(line) for line, answer in reversed(KNOWN)], list(reversed(first)))


if __name__ == "__main__":
    unittest.main()
