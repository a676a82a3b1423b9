"""Points 18 to 20 and 27 to 30, of trees: the machines of frames and of sayings, and the verdicts on sayings."""

import copy
import itertools
import random
import unittest
from unittest import mock

from setsays.errors import NoFrame, NoSaying, TooGreat
from setsays.grown import tree_built, tree_fitting, tree_verdict
from setsays.groves import tree_flipped, tree_takes
from setsays.sayings import is_tree_saying
from setsays.texts import read
from setsays.trees import tree_fits, tree_holds
from tests.helpers import NO_FRAMES
from tests.tree_helpers import (FOUR_NAMES, FRAMES, TREE_GREAT, VERDICT_GREAT, Great, TreeCase, count_nodes,
                                dropped_by_sets, every_tree, fitted_tree, made_up_tree, made_up_tree_saying,
                                met_by_pairs, trees_up_to)

NO_SAYINGS = (
    None, True, 0, "", "x in X", [], ["in", "x", "X"], (), {}, ("in", "x"), ("in", "X", "x"), ("in", "y", "X"),
    ("same", "x", "y"), ("is", "x", "X"), ("ahead", "x", "x"), ("next", "x", "x"), ("some", "x", ("in", "x", "X")),
    ("all", "X", ("in", "x", "X")), ("not", ("not", ("ahead", "x", "x"))),
    ("some", "y", ("some", "y", ("in", "x", "X"))), ("some", "a", ("some", "b", ("in", "x", "X"))),
    ("or", ("in", "x", "X"), ("next", "x", "x")), ({},), ([],), object(), ("not",), ("and", ("in", "x", "X")),
    ("in", "x", "X", "x"), ("some", "y", ("in", "z", "X")), ("and", ("in", "x", "X"), ["in", "x", "X"]), ("not", None),
)

# Sayings of one frame that hold for the same trees; those of unlike rows don't.
ALIKE = (
    ([], ("all x x same x", "all x not x above x", "some X X within X", "all X some Y (X within Y and Y within X)")),
    ([], ("some x some y x above y", "some x some y (x left y or x right y)", "not all x all y not x above y")),
    ([], ("all x x left x", "not some x x same x", "all x some y x above y")),
    ([], ("some x not x same x", "some X not X within X", "all X some x x in X")),
    (["X"], ("all x x in X", "not some x not x in X", "all Y Y within X")),
    (["X"], ("some x x in X", "not all x not x in X", "some Y (Y within X and some x x in Y)", "not all Y X within Y")),
    (["x"], ("not some y y above x", "all y (y same x or x above y)", "all y not (y left x or y right x)")),
    (["x"], ("x same x", "all y (y same x or not y same x)", "some X x in X")),
    (["x", "X"], ("x in X", "some y (y same x and y in X)", "not all y (not y same x or not y in X)")),
    (["x", "y"], ("x above y", "(x left y or (x right y or some z (x above z and (z left y or z right y))))")),
    (["x", "y"], ("x left y", "not not x left y", "(x left y and x above y)", "(x left y and not x right y)")),
    (["x", "y"], ("x same y", "all X (not x in X or y in X)", "not some X (x in X and not y in X)")),
    (["X", "Y"], ("X within Y", "all x (not x in X or x in Y)", "not some x (x in X and not x in Y)")),
)


def tried_trees(chance, frame, most, count):
    """All trees of so many nodes at most, and some greater ones, most of which fit."""
    trees = trees_up_to(len(frame), most)
    for time in range(count):
        nodes = chance.choice((3, 4, 5, 7, 12))
        trees.append(fitted_tree(chance, frame, nodes) if time % 4 else made_up_tree(chance, len(frame), nodes))
    return trees


def by_words(saying, frame):
    """Point 19 word by word, by pairs and by sets; Great where more than thirty of these are come to."""
    word = saying[0]
    if word in ("and", "or"):
        return met_by_pairs(by_words(saying[1], frame), by_words(saying[2], frame), all if word == "and" else any)
    if word == "not":
        machine = by_words(saying[1], frame)
        return met_by_pairs(machine[:2] + (tuple([not end for end in machine[2]]),), tree_fitting(frame), all)
    if word == "some":
        return dropped_by_sets(by_words(saying[2], frame + [saying[1]]), len(frame))
    if word == "all":
        return by_words(("not", ("some", saying[1], ("not", saying[2]))), frame)
    return tree_built(saying, frame)


class GrownCase(TreeCase):

    def check_holds(self, saying, frame, trees):
        machine = tree_built(saying, frame)
        self.check_tree_form(machine, len(frame))
        for tree in trees:
            if tree_takes(machine, tree) is not tree_holds(saying, frame, tree):
                self.fail(repr((saying, frame, tree)))


class FittingTest(GrownCase):

    def test_known_ones(self):
        for names in ([], ["X"], ["X", "Y"], ["X", "Y", "Z"]):
            self.assertEqual(tree_fitting(names), (len(names), (((0,),),) * 2 ** len(names), (True,)))
        without = ((0, 1, 2), (1, 2, 2), (2, 2, 2))
        with_it = ((1, 2, 2), (2, 2, 2), (2, 2, 2))
        self.assertEqual(tree_fitting(["x"]), (1, (without, with_it), (False, True, False)))
        self.assertEqual(tree_fitting(["x", "X"]), (2, (without, with_it, without, with_it), (False, True, False)))
        self.assertEqual(tree_fitting(["X", "x"]), (2, (without, without, with_it, with_it), (False, True, False)))

    def test_takes_the_trees_that_fit(self):
        chance = random.Random(18)
        for frame in FRAMES:
            machine = tree_fitting(frame)
            self.check_tree_form(machine, len(frame))
            places = len([name for name in frame if name[0].islower()])
            self.assertEqual(len(machine[2]), 2 ** places + 1 if places else 1)
            for tree in tried_trees(chance, frame, 2, 60):
                self.assertIs(tree_takes(machine, tree), tree_fits(frame, tree))

    def test_what_is_no_frame(self):
        for thing in NO_FRAMES + FOUR_NAMES:
            self.check_refused(NoFrame, tree_fitting, thing)


class BareTest(GrownCase):

    def test_known_ones(self):
        kept = ((0, 1), (1, 1))
        broken = ((1, 1), (1, 1))
        for saying, frame, machine in (
            (("within", "X", "Y"), ["X", "Y"], (2, (kept, broken, kept, kept), (True, False))),
            (("within", "Y", "X"), ["X", "Y"], (2, (kept, kept, broken, kept), (True, False))),
            (("within", "X", "X"), ["X"], (1, (((0,),),) * 2, (True,))),
            (("above", "x", "x"), ["x"], (1, (((0,),),) * 2, (False,))),
            (("left", "x", "x"), ["x"], (1, (((0,),),) * 2, (False,))),
            (("same", "x", "x"), ["x"], tree_fitting(["x"])),
        ):
            self.assertEqual(tree_built(saying, frame), machine)

    def test_each_word_of_each_two_names_of_each_frame(self):
        chance = random.Random(190)
        for frame in FRAMES:
            trees = tried_trees(chance, frame, 2, 60)
            for one, other in itertools.product(frame, repeat=2):
                for word in ("in", "same", "within", "left", "right", "above"):
                    if is_tree_saying((word, one, other), frame):
                        self.check_holds((word, one, other), frame, trees)

    def test_every_tree_of_three_and_four_nodes(self):
        trees = every_tree(2, 3)
        for word in ("same", "left", "right", "above"):
            self.check_holds((word, "x", "y"), ["x", "y"], trees)
            self.check_holds((word, "x", "y"), ["y", "x"], trees)
        self.check_holds(("in", "x", "X"), ["x", "X"], trees)
        self.check_holds(read("some y x left y"), ["x"], every_tree(1, 4))

    def test_no_frame_is_too_great_for_a_bare_one(self):
        # Bare ones are told as they are: no pairs or sets are spoken of.
        for sorts in itertools.product(("xyz", "XYZ"), repeat=3):
            frame = [names[at] for at, names in enumerate(sorts)]
            self.check_tree_form(tree_fitting(frame), 3)
            for saying in itertools.product(("in", "same", "within", "left", "right", "above"), frame, frame):
                if is_tree_saying(saying, frame):
                    self.check_tree_form(tree_built(saying, frame), 3)


class BuiltTest(GrownCase):

    def test_not_keeps_to_trees_that_fit(self):
        machine = tree_built(("not", ("in", "x", "X")), ["x", "X"])
        for tree in (None, (0, None, None), (2, None, None), (3, (1, None, None), None), (1, None, (1, None, None))):
            self.assertIs(tree_takes(machine, tree), False)
        self.assertIs(tree_takes(machine, (2, None, (1, None, None))), True)
        self.assertEqual(len(machine[2]), 3)

    def test_the_tree_without_nodes(self):
        for text, truth in (("some x x same x", False), ("all x x above x", True), ("some X X within X", True),
                            ("all X X within X", True), ("not some x x same x", True), ("not all x x same x", False),
                            ("all X some x x in X", False), ("some X all x x in X", True)):
            self.assertIs(tree_takes(tree_built(read(text), []), None), truth, text)

    def test_known_ones(self):
        self.assertEqual(tree_built(read("some x x in X"), ["X"]),
                         (1, (((0, 1), (1, 1)), ((1, 1), (1, 1))), (False, True)))
        self.assertEqual(tree_built(read("not some x x same x"), []), (0, (((1, 1), (1, 1)),), (True, False)))
        # At most one node.
        self.assertEqual(tree_built(read("not some x some y x above y"), []),
                         (0, (((1, 2, 2), (2, 2, 2), (2, 2, 2)),), (True, True, False)))
        # None has a left child.
        self.assertEqual(tree_built(read("not some x some y x left y"), []),
                         (0, (((1, 1, 2), (2, 2, 2), (2, 2, 2)),), (True, True, False)))

    def test_every_second_storey(self):
        # X has the top and every second storey from it on, and not the lowest nodes: all are as deep, and evenly so.
        text = ("some X ((all x (some y y above x or x in X) and all x (some y x above y or not x in X)) and "
                "all x all y (not (x left y or x right y) or ((x in X or y in X) and not (x in X and y in X))))")
        chance = random.Random(191)
        self.check_holds(read(text), [], tried_trees(chance, [], 5, 30))

    def test_texts(self):
        chance = random.Random(192)
        for frame, texts in ALIKE:
            trees = tried_trees(chance, frame, 2, 40)
            for text in texts:
                self.check_holds(read(text), frame, trees)

    def test_great_trees(self):
        chance = random.Random(193)
        for frame, texts in ALIKE:
            machine = tree_built(read(texts[0]), frame)
            for nodes in (60, 200):
                tree = fitted_tree(chance, frame, nodes)
                self.assertIs(tree_takes(machine, tree), tree_holds(read(texts[0]), frame, tree))

    def test_made_up_sayings(self):
        chance = random.Random(194)
        for time in range(250):
            frame = list(chance.choice(FRAMES))
            saying = made_up_tree_saying(chance, frame, chance.randrange(2, 8))
            if is_tree_saying(saying, frame):
                self.check_holds(saying, frame, tried_trees(chance, frame, 1, 12))

    def test_made_up_sayings_word_by_word(self):
        chance = random.Random(195)
        for time in range(100):
            frame = list(chance.choice(FRAMES))
            saying = made_up_tree_saying(chance, frame, chance.randrange(2, 6))
            if is_tree_saying(saying, frame):
                self.assertEqual(tree_built(saying, frame), by_words(saying, frame), saying)


class EqualTest(GrownCase):

    def test_sayings_that_hold_for_the_same_trees(self):
        for frame, texts in ALIKE:
            for text in texts:
                self.assertEqual(tree_built(read(text), frame), tree_built(read(texts[0]), frame), text)

    def test_sayings_that_do_not(self):
        for number, (frame, texts) in enumerate(ALIKE):
            for other_frame, other_texts in ALIKE[number + 1:]:
                if frame == other_frame:
                    self.assertNotEqual(tree_built(read(texts[0]), frame), tree_built(read(other_texts[0]), frame))

    def test_made_up_ones(self):
        chance = random.Random(196)
        counts = {True: 0, False: 0}
        for frame in ([], ["X"], ["x"], ["x", "X"]):
            trees = tried_trees(chance, frame, 2, 40) + every_tree(len(frame), 3)
            sayings = [made_up_tree_saying(chance, frame, 4) for time in range(12)]
            for one, other in itertools.combinations(sayings, 2):
                if is_tree_saying(one, frame) and is_tree_saying(other, frame):
                    equal = tree_built(one, frame) == tree_built(other, frame)
                    counts[equal] += 1
                    unlike = [tree for tree in trees
                              if tree_holds(one, frame, tree) is not tree_holds(other, frame, tree)]
                    self.assertFalse(equal and unlike, (one, other))
                    # Where they are not equal, either tells the other's trees apart from all that fit.
                    both = ("or", ("and", one, ("not", other)), ("and", other, ("not", one)))
                    self.assertIs(tree_verdict(("not", both), frame) == ("yes",), equal)
        self.assertGreater(min(counts.values()), 10)


class TooGreatTest(GrownCase):

    def test_known_ones(self):
        for frame, text in TREE_GREAT:
            saying = read(text)
            self.assertTrue(is_tree_saying(saying, frame))
            with self.assertRaises(Great):
                by_words(saying, frame)
            self.check_refused(TooGreat, tree_built, saying, frame)
            self.check_refused(TooGreat, tree_verdict, saying, frame)

    def test_each_word_is_among_them(self):
        self.assertEqual({read(text)[0] for frame, text in TREE_GREAT}, {"and", "or", "not", "some", "all"})

    def test_parts_of_it_are_not(self):
        for frame, text in TREE_GREAT:
            saying = read(text)
            names = frame + [saying[1]] if saying[0] in ("some", "all") else frame
            for inner in saying[1:]:
                if inner.__class__ is tuple:
                    self.assertEqual(tree_built(inner, names), by_words(inner, names))

    def test_inside_another_saying(self):
        # Refused though what it stands in would hold for all trees, or for none.
        for frame, text in TREE_GREAT:
            great = read(text)
            always = ("same", "x", "x") if "x" in frame else read("all u u same u")
            for saying in (("not", great), ("or", great, always), ("or", always, great),
                           ("and", great, ("not", always)), ("and", ("not", always), great)):
                self.assertTrue(is_tree_saying(saying, frame))
                self.check_refused(TooGreat, tree_built, saying, frame)
                self.check_refused(TooGreat, tree_verdict, saying, frame)

    def test_the_saying_holds_or_not_all_the_same(self):
        chance = random.Random(197)
        for frame, text in TREE_GREAT:
            for nodes in (0, 1, 5, 60):
                tree = fitted_tree(chance, frame, nodes)
                fit = tree_fits(frame, tree)
                truth = tree_holds(read(text), frame, tree)
                self.assertIs(tree_holds(read("not " + text), frame, tree), fit and not truth)


class RefusedTest(GrownCase):

    def test_what_is_no_frame(self):
        for ask in (tree_built, tree_verdict):
            for frame in NO_FRAMES + FOUR_NAMES:
                self.check_refused(NoFrame, ask, ("in", "x", "X"), frame)

    def test_a_saying_that_is_not_let(self):
        for ask in (tree_built, tree_verdict):
            for saying in NO_SAYINGS:
                self.check_refused(NoSaying, ask, saying, ["x", "X"])
            self.check_refused(NoSaying, ask, ("some", "y", ("in", "y", "X")), ["x", "X", "Y"])
            deep = ("in", "x", "X")
            for step in range(11):
                deep = ("not", deep)
            ask(deep, ["x", "X"])
            self.check_refused(NoSaying, ask, ("not", deep), ["x", "X"])

    def test_both_at_once(self):
        for ask in (tree_built, tree_verdict):
            for frame in NO_FRAMES + FOUR_NAMES:
                for saying in (None, ("in", "y", "X"), "x in X", ["in", "x", "X"], ("ahead", "x", "x"), 7):
                    self.check_refused(NoFrame, ask, saying, frame)

    def test_no_saying_goes_ahead_of_too_great(self):
        frame, text = TREE_GREAT[0]
        for ask in (tree_built, tree_verdict):
            self.check_refused(NoSaying, ask, ("and", read(text), ("ahead", "x", "x")), frame)
            self.check_refused(NoSaying, ask, ("and", read(text), ("in", "w", "W")), frame)
            self.check_refused(NoFrame, ask, read(text), frame * 2)


class VerdictTest(GrownCase):

    def check_verdict(self, saying, frame, found):
        if found == ("yes",):
            return
        self.assertEqual(len(found), 2)
        self.assertEqual(found[0], "no")
        self.assertIs(tree_fits(frame, found[1]), True)
        self.assertIs(tree_holds(saying, frame, found[1]), False)

    def test_yes(self):
        for text, frame in (("all x x same x", []), ("x same x", ["x"]), ("(not x left y or x above y)", ["x", "y"]),
                            ("(not (x above y and y above z) or x above z)", ["x", "y", "z"]), ("X within X", ["X"]),
                            ("all x (some y y above x or all y (x same y or x above y))", []),
                            ("(not X within Y or all x (not x in X or x in Y))", ["X", "Y"]),
                            ("some X x in X", ["x"])):
            self.assertEqual(tree_verdict(read(text), frame), ("yes",), text)

    def test_no_with_the_tree_without_nodes(self):
        for text, frame in (("some x x same x", []), ("some x x in X", ["X"]), ("not X within Y", ["X", "Y"])):
            self.assertEqual(tree_verdict(read(text), frame), ("no", None))

    def test_no_with_the_only_tree(self):
        for text, frame, tree in (("x in X", ["x", "X"], (1, None, None)), ("not x in X", ["x", "X"], (3, None, None)),
                                  ("not x same y", ["x", "y"], (3, None, None)),
                                  ("not x left y", ["x", "y"], (1, (2, None, None), None)),
                                  ("not x right y", ["x", "y"], (1, None, (2, None, None))),
                                  ("X within Y", ["X", "Y"], (1, None, None)),
                                  ("not (x left y and x right z)", ["x", "y", "z"],
                                   (1, (2, None, None), (4, None, None))),
                                  ("not (x left y and y right z)", ["x", "y", "z"],
                                   (1, (2, None, (4, None, None)), None))):
            self.assertEqual(tree_verdict(read(text), frame), ("no", tree))

    def test_no_with_one_of_several_trees(self):
        for text, frame, nodes in (("not x above y", ["x", "y"], 2), ("(x above y or y above x)", ["x", "y"], 1),
                                   ("((x above y or y above x) or x same y)", ["x", "y"], 3),
                                   ("not (x above y and y above z)", ["x", "y", "z"], 3),
                                   ("not some x some y some z (x left y and y left z)", [], 3),
                                   ("not some x some y (x right y and (x in X and not y in X))", ["X"], 2),
                                   ("not (some x some y x left y and some x some y x right y)", [], 3)):
            found = tree_verdict(read(text), frame)
            self.check_verdict(read(text), frame, found)
            self.assertEqual(count_nodes(found[1]), nodes)

    def test_none_of_fewer_nodes_is_so(self):
        chance = random.Random(198)
        counts = {"yes": 0, "no": 0}
        for time in range(250):
            frame = list(chance.choice(FRAMES))
            saying = made_up_tree_saying(chance, frame, chance.randrange(2, 6))
            if not is_tree_saying(saying, frame):
                continue
            found = tree_verdict(saying, frame)
            counts[found[0]] += 1
            self.check_verdict(saying, frame, found)
            most = 2 if len(frame) == 3 else 3
            fewer = most if found[0] == "yes" else min(most, count_nodes(found[1]) - 1)
            for tree in trees_up_to(len(frame), fewer):
                self.assertIs(tree_holds(saying, frame, tree), tree_fits(frame, tree), (saying, frame, tree))
        self.assertGreater(min(counts.values()), 30, counts)

    def test_refused_where_the_met_machine_is(self):
        frame, text = VERDICT_GREAT
        saying = read(text)
        machine = tree_built(saying, frame)
        self.check_tree_form(machine, 3)
        with self.assertRaises(Great):
            met_by_pairs(tree_fitting(frame), tree_flipped(machine), all)
        self.check_refused(TooGreat, tree_verdict, saying, frame)

    def test_refused_where_the_smallest_tree_is_too_great(self):
        saying = read("not some x some y some z (x left y and x right z)")
        self.assertEqual(count_nodes(tree_verdict(saying, [])[1]), 3)
        with mock.patch("setsays.groves.MOST_NODES", 3):
            self.assertEqual(tree_verdict(saying, [])[0], "no")
        with mock.patch("setsays.groves.MOST_NODES", 2):
            self.check_refused(TooGreat, tree_verdict, saying, [])


class UnchangedTest(GrownCase):

    def test_saying_and_frame_stay_as_they_were(self):
        for text, frame in (("some y (y in X and y left x)", ["x", "X"]), ("x in X", ["x", "X"]),
                            ("all Y (X within Y or some x (x in X and not x in Y))", ["X"])):
            saying = read(text)
            before = copy.deepcopy((saying, frame))
            first = (tree_built(saying, frame), tree_verdict(saying, frame), tree_fitting(frame))
            self.assertEqual((saying, frame), before)
            self.check_refused(TooGreat, tree_built, read(TREE_GREAT[0][1]), list(TREE_GREAT[0][0]))
            self.assertEqual((tree_built(saying, frame), tree_verdict(saying, frame), tree_fitting(frame)), first)


if __name__ == "__main__":
    unittest.main()
