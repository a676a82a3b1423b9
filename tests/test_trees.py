"""Points 23, 24 and 20: trees, which fit a frame, for which a saying holds, and what is refused."""

import copy
import itertools
import random
import unittest

from setsays.errors import NoFrame, NoSaying, NoTree
from setsays.sayings import is_tree_saying
from setsays.texts import read
from setsays.trees import tree_fits, tree_holds
from tests.helpers import NO_FRAMES
from tests.tree_helpers import (FOUR_NAMES, FRAMES, TreeCase, fits_by_roads, fitted_tree, letters_by_road, made_up_tree,
                                made_up_tree_saying, tree_of, trees_up_to)


def node(letter, left=None, right=None):
    return (letter, left, right)


def bare_by(saying, known):
    one = known[saying[1]]
    other = known[saying[2]]
    return {"in": lambda: one in other, "same": lambda: one == other, "within": lambda: one <= other,
            "left": lambda: other == one + "l", "right": lambda: other == one + "r",
            "above": lambda: other.startswith(one) and len(one) < len(other)}[saying[0]]()


def choices(name, roads):
    """Every node, or every set of nodes, that a some or all over the name has."""
    if name[0].islower():
        return roads
    return [frozenset(some) for count in range(len(roads) + 1) for some in itertools.combinations(roads, count)]


def by_every_choice(saying, known, roads):
    """Point 24 word by word: each node and each set is tried."""
    word = saying[0]
    if word == "not":
        return not by_every_choice(saying[1], known, roads)
    if word in ("and", "or"):
        both = [by_every_choice(inner, known, roads) for inner in saying[1:]]
        return all(both) if word == "and" else any(both)
    if word not in ("some", "all"):
        return bare_by(saying, known)
    found = [by_every_choice(saying[2], {**known, saying[1]: choice}, roads) for choice in choices(saying[1], roads)]
    return any(found) if word == "some" else all(found)


def holds_by_roads(saying, frame, tree):
    letters = letters_by_road(tree)
    if not fits_by_roads(frame, letters):
        return False
    known = {}
    for track, name in enumerate(frame):
        roads = frozenset(road for road in letters if letters[road] // 2 ** track % 2 == 1)
        known[name] = min(roads) if name[0].islower() else roads
    return by_every_choice(saying, known, list(letters))


def full(deep, letter=0):
    """The tree of so many storeys in which none but the lowest nodes lack a child."""
    return None if deep == 0 else (letter, full(deep - 1, letter), full(deep - 1, letter))


def down(road, letters):
    """The tree that goes down this road alone, with these letters."""
    return tree_of({road[:at]: letter for at, letter in enumerate(letters)})


class FitsTest(TreeCase):

    def check(self, frame, tree, truth):
        with self.subTest(frame=frame, tree=tree):
            self.assertIs(tree_fits(frame, tree), truth)

    def test_the_tree_without_nodes(self):
        for frame, truth in (([], True), (["X"], True), (["X", "Y", "Z"], True), (["x"], False), (["x", "X"], False),
                             (["X", "x"], False), (["x", "y", "z"], False)):
            self.check(frame, None, truth)

    def test_one_node(self):
        for frame, fitting_letters in (([], (0,)), (["x"], (1,)), (["X"], (0, 1)), (["x", "X"], (1, 3)),
                                       (["X", "x"], (2, 3)), (["x", "y"], (3,)), (["x", "y", "X"], (3, 7)),
                                       (["X", "x", "Y"], (2, 3, 6, 7))):
            for letter in range(2 ** len(frame)):
                self.check(frame, node(letter), letter in fitting_letters)

    def test_several_nodes(self):
        self.check(["x"], node(0, node(0), node(1)), True)
        self.check(["x"], node(0, node(1), node(1)), False)
        self.check(["x"], node(1, node(0), node(1)), False)
        self.check(["x"], node(0, node(0), node(0)), False)
        self.check(["x", "X"], node(2, node(3, node(2), None), node(2)), True)
        self.check(["x", "X"], node(2, node(3, node(2), None), node(3)), False)
        self.check(["x", "y"], node(1, None, node(0, None, node(2))), True)
        self.check(["x", "y"], node(1, None, node(0, node(1), node(2))), False)
        self.check(["X", "Y"], node(3, node(3), node(3)), True)

    def test_bent_to_one_side(self):
        for road in ("l" * 59, "r" * 59, "lr" * 30, "rl" * 30):
            for place in range(60):
                letters = [2 * (at % 2) for at in range(60)]
                letters[place] += 1
                self.check(["x", "X"], down(road, letters), True)
                letters[(place + 7) % 60] |= 1
                self.check(["x", "X"], down(road, letters), False)

    def test_every_small_tree_and_great_ones(self):
        chance = random.Random(23)
        for frame in FRAMES:
            trees = trees_up_to(len(frame), 2 if len(frame) == 3 else 3)
            trees += [fitted_tree(chance, frame, nodes) for nodes in (4, 9, 30, 127, 200)]
            for tree in trees:
                self.assertIs(tree_fits(frame, tree), fits_by_roads(frame, letters_by_road(tree)), (frame, tree))

    def test_a_letter_that_is_none(self):
        for frame in FRAMES:
            bound = 2 ** len(frame)
            for letter in (-1, bound, bound + 1, -bound, 2 * bound, 10 ** 40, -10 ** 40):
                for road in ("", "l", "r", "lll", "rrr", "lrlr", "rrl", "l" * 40, "rl" * 20):
                    tree = down(road, [0] * len(road) + [letter])
                    self.check_refused(NoTree, tree_fits, frame, tree)
                    self.check_refused(NoTree, tree_fits, frame, node(0, tree, node(0)))
                    self.check_refused(NoTree, tree_fits, frame, node(bound - 1, node(0, node(bound - 1)), tree))

    def test_what_is_no_tree(self):
        for thing in (0, 1, "", "x", True, False, [], [0, None, None], (), (0,), (0, None), (0, None, None, None), {}):
            for tree in (thing, (0, thing, None), (0, None, (0, (0, None, None), thing))):
                self.check_refused(NoTree, tree_fits, ["X"], tree)
                self.check_refused(NoTree, tree_holds, ("within", "X", "X"), ["X"], tree)
        for letter in (True, False, None, "0", [], (0, None, None), 1.0):
            self.check_refused(NoTree, tree_fits, ["X"], (0, (letter, None, None), None))

    def test_the_frame_and_the_tree_stay_as_they_were(self):
        frame = ["x", "X"]
        tree = node(2, node(3), node(0))
        before = copy.deepcopy((frame, tree))
        self.assertIs(tree_fits(frame, tree), tree_fits(frame, tree))
        self.assertEqual((frame, tree), before)


class HoldsCase(TreeCase):

    def check(self, text, frame, tree, truth):
        with self.subTest(text=text, frame=frame, tree=tree):
            self.assertIs(tree_holds(read(text), frame, tree), truth)

    def check_both(self, text, frame, tree, truth):
        """Of a tree that fits: the saying and its not."""
        self.assertTrue(tree_fits(frame, tree))
        self.check(text, frame, tree, truth)
        self.check("not " + text, frame, tree, not truth)

    def check_by_roads(self, saying, frame, trees):
        for tree in trees:
            wanted = holds_by_roads(saying, frame, tree)
            if tree_holds(saying, frame, tree) is not wanted:
                self.fail(repr((saying, frame, tree, wanted)))


class BareTest(HoldsCase):

    def test_in(self):
        for tree, truth in ((node(3), True), (node(1), False), (node(2, node(3)), True), (node(3, node(2)), True),
                            (node(2, node(1), node(2)), False), (node(0, None, node(3)), True),
                            (node(1, node(2), node(2)), False), (node(2, node(2, node(1), node(2)), None), False)):
            self.check_both("x in X", ["x", "X"], tree, truth)

    def test_same(self):
        for tree, truth in ((node(3), True), (node(1, node(2)), False), (node(2, None, node(1)), False),
                            (node(0, node(3)), True), (node(0, node(1), node(2)), False),
                            (node(0, node(0), node(0, node(3))), True)):
            self.check_both("x same y", ["x", "y"], tree, truth)
            self.check_both("y same x", ["x", "y"], tree, truth)

    def test_within(self):
        for tree, truth in ((None, True), (node(0), True), (node(1), False), (node(2), True), (node(3), True),
                            (node(3, node(2), node(0)), True), (node(3, node(3), node(1)), False),
                            (node(0, node(1), node(2)), False), (node(0, node(2, None, node(1))), False)):
            self.check_both("X within Y", ["X", "Y"], tree, truth)
            self.check_both("Y within X", ["Y", "X"], tree, truth)

    def test_left_and_right_are_told_apart(self):
        for tree, left, right in (
            (node(1, node(2)), True, False), (node(1, None, node(2)), False, True), (node(2, node(1)), False, False),
            (node(2, None, node(1)), False, False), (node(3), False, False), (node(0, node(3)), False, False),
            (node(0, node(1), node(2)), False, False), (node(0, node(2), node(1)), False, False),
            (node(1, node(0, node(2))), False, False), (node(1, None, node(0, None, node(2))), False, False),
            (node(1, node(0, None, node(2))), False, False), (node(1, None, node(0, node(2))), False, False),
            (node(0, node(0), node(1, node(2), node(0))), True, False),
            (node(1, node(2, node(0)), node(0)), True, False),
            (node(0, node(1, node(0), node(2)), node(0)), False, True), (node(1, node(0), node(2)), False, True),
        ):
            self.check_both("x left y", ["x", "y"], tree, left)
            self.check_both("x right y", ["x", "y"], tree, right)
            self.check_both("y left x", ["y", "x"], tree, left)
            self.check_both("y right x", ["y", "x"], tree, right)

    def test_above(self):
        for tree, truth in (
            (node(1, node(2)), True), (node(1, None, node(2)), True), (node(2, node(1)), False),
            (node(2, None, node(1)), False), (node(3), False), (node(0, node(3)), False),
            (node(0, node(1), node(2)), False), (node(0, node(2), node(1)), False),
            (node(1, node(0, node(2))), True), (node(1, node(0, None, node(0, node(2)))), True),
            (node(0, node(1, node(0), node(0, node(2))), node(0)), True),
            (node(0, node(1, node(0), node(0)), node(0, node(2))), False),
            (node(2, node(0, node(0, node(1)))), False),
        ):
            self.check_both("x above y", ["x", "y"], tree, truth)
            self.check_both("y above x", ["y", "x"], tree, truth)

    def test_far_above(self):
        for road in ("l" * 59, "r" * 59, "lr" * 30, "rrl" * 20):
            for one, other in ((0, 59), (59, 0), (0, 1), (1, 0), (30, 31), (31, 30), (12, 50), (58, 59)):
                letters = [0] * 60
                letters[one] += 1
                letters[other] += 2
                tree = down(road, letters)
                self.check_both("x above y", ["x", "y"], tree, one < other)
                self.check_both("x left y", ["x", "y"], tree, other == one + 1 and road[one] == "l")
                self.check_both("x right y", ["x", "y"], tree, other == one + 1 and road[one] == "r")

    def test_one_name_twice(self):
        for tree in (node(1), node(0, node(1)), node(1, node(0), node(0)), node(0, node(0), node(1, node(0)))):
            self.check_both("x same x", ["x"], tree, True)
            for word in ("left", "right", "above"):
                self.check_both("x " + word + " x", ["x"], tree, False)
        for tree in (None, node(0), node(1), node(1, node(0), node(1))):
            self.check_both("X within X", ["X"], tree, True)

    def test_each_word_of_each_two_names_by_every_small_tree(self):
        for frame in FRAMES:
            trees = trees_up_to(len(frame), 2 if len(frame) == 3 else 3)
            for word in ("in", "same", "within", "left", "right", "above"):
                for names in itertools.product(frame, repeat=2):
                    if is_tree_saying((word,) + names, frame):
                        self.check_by_roads((word,) + names, frame, trees)
                        self.check_by_roads(("not", (word,) + names), frame, trees)


class PutTogetherTest(HoldsCase):

    def test_not_and_or(self):
        for letter, one, other in ((1, False, False), (3, True, False), (5, False, True), (7, True, True)):
            for tree in (node(letter), node(6, node(letter), node(0)),
                         node(0, node(2), node(4, node(6), node(letter)))):
                frame = ["x", "X", "Y"]
                self.check_both("x in X", frame, tree, one)
                self.check_both("not not x in X", frame, tree, one)
                self.check_both("(x in X and x in Y)", frame, tree, one and other)
                self.check_both("(x in X or x in Y)", frame, tree, one or other)
                self.check_both("(x in X and not x in Y)", frame, tree, one and not other)
                self.check_both("(not x in X or x in Y)", frame, tree, other or not one)
                self.check_both("(x in X or not x in X)", frame, tree, True)
                self.check_both("(x in X and not x in X)", frame, tree, False)

    def test_what_is_settled_on_one_side_and_not_on_the_other(self):
        self.check_both("(x in X and x above y)", ["x", "y", "X"], node(0, node(5, node(2)), node(0)), True)
        self.check_both("(x in X and x above y)", ["x", "y", "X"], node(0, node(5), node(2)), False)
        self.check_both("(x in X or X within Y)", ["x", "X", "Y"], node(0, node(1), node(2)), False)
        self.check_both("(x in X or X within Y)", ["x", "X", "Y"], node(0, node(3), node(2)), True)
        self.check_both("(x in X or X within Y)", ["x", "X", "Y"], node(6, node(1), node(6)), True)


class SomeAndAllTest(HoldsCase):

    def test_the_tree_without_nodes(self):
        for text, truth in (
            ("some x x same x", False), ("all x x same x", True), ("some x not x same x", False),
            ("all x not x same x", True), ("some X X within X", True), ("all X X within X", True),
            ("some X not X within X", False), ("all X not X within X", False), ("all X all Y X within Y", True),
            ("some X some x x in X", False), ("all X some x x in X", False), ("some X all x not x in X", True),
            ("all x some y x left y", True), ("some x all X x in X", False), ("all x all X not x in X", True),
            ("(some x x same x or all x x above x)", True), ("not (some x x same x or some y y same y)", True),
        ):
            self.check_both(text, [], None, truth)
        for text, truth in (("some x x in X", False), ("all x x in X", True), ("some Y X within Y", True),
                            ("all Y X within Y", True), ("all Y Y within X", True)):
            self.check_both(text, ["X"], None, truth)

    def test_the_empty_set_and_the_set_of_all(self):
        for tree in (None, node(0), node(0, node(0), node(0, None, node(0)))):
            self.check_both("some X all x not x in X", [], tree, True)
            self.check_both("all X some x x in X", [], tree, False)
            self.check_both("some X all x x in X", [], tree, True)
            self.check_both("all Y X within Y", ["X"], tree, True)
        self.check_both("all Y X within Y", ["X"], node(0, None, node(1)), False)
        self.check_both("all Y Y within X", ["X"], node(1, node(1), node(1)), True)
        self.check_both("all Y Y within X", ["X"], node(1, node(1), node(0)), False)

    def test_over_nodes(self):
        for tree in trees_up_to(1, 4):
            letters = letters_by_road(tree)
            self.check_both("some x x in X", ["X"], tree, 1 in letters.values())
            self.check_both("all x x in X", ["X"], tree, 0 not in letters.values())
            self.check_both("some x some y (x left y and (x in X and y in X))", ["X"], tree,
                            any(letters[road] and letters.get(road + "l") for road in letters))
            self.check_both("all x (some y x right y or x in X)", ["X"], tree,
                            all(letters[road] or road + "r" in letters for road in letters))
            self.check_both("some x (x in X and all y (x same y or not y in X))", ["X"], tree,
                            list(letters.values()).count(1) == 1)
            self.check_both("some x (x in X and not some y y above x)", ["X"], tree, letters.get("") == 1)

    def test_the_top_and_the_lowest_nodes(self):
        for tree in trees_up_to(0, 4):
            roads = list(letters_by_road(tree))
            for here in roads:
                marked = tree_of({road: int(road == here) for road in roads})
                self.check_both("not some y y above x", ["x"], marked, here == "")
                self.check_both("all y (x same y or x above y)", ["x"], marked, here == "")
                self.check_both("some y x above y", ["x"], marked, here + "l" in roads or here + "r" in roads)
                self.check_both("some y some z (y left x and x right z)", ["x"], marked,
                                here.endswith("l") and here + "r" in roads)

    def test_what_goes_down_from_the_top_comes_everywhere(self):
        text = ("all X (all x x in X or (some x (not some y y above x and not x in X) or "
                "some x some y ((x left y or x right y) and (x in X and not y in X))))")
        for tree in (None, node(0), full(4), full(7), down("lr" * 30, [0] * 60),
                     node(0, full(5), down("r" * 50, [0] * 50))):
            self.check_both(text, [], tree, True)
            self.check_both(text.replace("x right y", "x left x"), [], tree,
                            not any("r" in road for road in letters_by_road(tree)))

    def test_every_second_storey(self):
        # X has the top and every second storey from it on, and not the lowest nodes.
        text = ("some X ((all x (some y y above x or x in X) and all x (some y x above y or not x in X)) and "
                "all x all y (not (x left y or x right y) or ((x in X or y in X) and not (x in X and y in X))))")
        for deep in range(8):
            self.check_both(text, [], full(deep), deep % 2 == 0)
            self.check_both(text, [], down("lrrl" * 15, [0] * (deep + 50)), deep % 2 == 0)
        self.check_both(text, [], node(0, full(3), full(4)), False)

    def test_great_trees_with_a_flaw(self):
        text = "all x (not some y x above y or some y some z (x left y and x right z))"
        self.check_both(text, [], full(7), True)
        letters = letters_by_road(full(7))
        letters.pop("lrlrlr")
        self.check_both(text, [], tree_of(letters), False)

    def test_sets_of_great_trees(self):
        # Each set that has a node has one of X.
        text = "all Y (some x (x in Y and x in X) or not some x x in Y)"
        chance = random.Random(24)
        for time in range(5):
            letters = {road: 1 for road in letters_by_road(made_up_tree(chance, 1, 200))}
            self.check_both(text, ["X"], tree_of(letters), True)
            letters[chance.choice(list(letters))] = 0
            self.check_both(text, ["X"], tree_of(letters), False)

    def test_the_order_of_the_frame_is_that_of_the_tracks(self):
        for frame in itertools.permutations(["x", "X"]):
            for text in ("some y (y left x and y in X)", "all y (y above x or y in X)", "all Y (x in Y or X within Y)"):
                self.check_by_roads(read(text), list(frame), trees_up_to(2, 3))

    def test_texts_by_every_choice(self):
        for text, frame, most in (
            ("all x some y (x left y or x same y)", [], 5),
            ("some x all y (y in X or (x above y and not x right y))", ["X"], 4),
            ("some X all x (x in X or x in Y)", ["Y"], 4),
            ("all X some x (x in X or x in Y)", ["Y"], 4),
            ("all X (x in X or some y (y above x and not y in X))", ["x"], 4),
            ("some x some X (x in X and (X within Y and not Y within X))", ["Y"], 3),
            ("all x all X (not x in X or some y (y in X and not y above x))", [], 4),
            ("some X some Y (all x (x in X or x in Y) and not some x (x in X and x in Y))", [], 4),
            ("some X all Y (Y within X or not X within Y)", [], 4),
            ("(x left y or some z (x above z and z above y))", ["x", "y"], 3),
            ("all Z ((Z within X or not x in Z) or X within Z)", ["x", "X"], 3),
        ):
            self.assertTrue(is_tree_saying(read(text), frame), text)
            self.check_by_roads(read(text), frame, trees_up_to(len(frame), most))


class MadeUpTest(HoldsCase):

    def test_many_made_up_sayings_by_every_choice(self):
        chance = random.Random(25)
        tried = {True: 0, False: 0}
        while min(tried.values()) < 1500:
            frame = list(chance.choice(FRAMES))
            saying = made_up_tree_saying(chance, frame, chance.randrange(1, 8))
            if not is_tree_saying(saying, frame):
                continue
            for nodes in range(5):
                tree = fitted_tree(chance, frame, nodes)
                if tree_fits(frame, tree):
                    tried[holds_by_roads(saying, frame, tree)] += 1
                    self.check_by_roads(saying, frame, [tree])
            self.check_by_roads(saying, frame, [made_up_tree(chance, len(frame), 3)])


class NotFittingTest(HoldsCase):

    def test_neither_a_saying_nor_its_not(self):
        for tree in (None, node(0), node(1, node(1)), node(0, node(1), node(1)), node(1, None, node(0, node(1)))):
            for text in ("x same x", "x above x", "some y y same y", "all X x in X", "all y y same x",
                         "(x same x or not x same x)", "some X some Y X within Y", "all X X within X"):
                self.check(text, ["x"], tree, False)
                self.check("not " + text, ["x"], tree, False)
        for tree in (None, node(1), node(2), node(1, node(1)), node(3, node(1)), node(2, node(2), node(1)),
                     node(0, node(3), node(3))):
            for text in ("x same y", "x above y", "x left y", "x right y", "all z z same z"):
                self.check(text, ["x", "y"], tree, False)
                self.check("not " + text, ["x", "y"], tree, False)

    def test_a_place_that_the_saying_does_not_name(self):
        for tree in (None, node(0), node(3, node(3)), node(1, node(1)), node(2, node(1), node(1))):
            self.check("X within X", ["x", "X"], tree, False)
            self.check("not X within X", ["x", "X"], tree, False)
        self.check("X within X", ["x", "X"], node(2, None, node(1)), True)


class RefusedTest(HoldsCase):

    def test_what_is_no_frame(self):
        for frame in NO_FRAMES + FOUR_NAMES:
            self.check_refused(NoFrame, tree_holds, ("in", "x", "X"), frame, node(3))

    def test_a_saying_that_is_not_let(self):
        for saying in (None, True, 0, "", "x in X", [], ["in", "x", "X"], (), ("in", "x"), ("in", "X", "x"),
                       ("in", "y", "X"), ("same", "x", "y"), ("is", "x", "X"), ("ahead", "x", "x"), ("next", "x", "x"),
                       ("some", "x", ("in", "x", "X")), ("all", "X", ("in", "x", "X")),
                       ("not", ("not", ("ahead", "x", "x"))), ("some", "y", ("some", "y", ("in", "x", "X"))),
                       ("some", "a", ("some", "b", ("in", "x", "X"))), ("or", ("in", "x", "X"), ("next", "x", "x")),
                       ("all", "a", ("all", "B", ("in", "x", "X"))), ({},), ([],), object()):
            self.check_refused(NoSaying, tree_holds, saying, ["x", "X"], node(3))
        for saying in (("some", "y", ("in", "y", "X")), ("not", ("all", "Y", ("within", "X", "Y")))):
            self.check_refused(NoSaying, tree_holds, saying, ["x", "X", "Z"], node(3))
        deep = ("in", "x", "X")
        for step in range(11):
            deep = ("not", deep)
        self.assertIs(tree_holds(deep, ["x", "X"], node(3)), False)
        self.check_refused(NoSaying, tree_holds, ("not", deep), ["x", "X"], node(3))

    def test_a_letter_that_is_none(self):
        for letter in (-1, 4, 5, 8, -10 ** 40, 10 ** 40):
            for tree in (node(letter), node(3, node(letter)), node(letter, None, node(3)),
                         node(0, node(3), node(letter)), node(1, node(1), node(letter)),
                         node(0, node(0, node(3), node(0, None, node(letter))))):
                self.check_refused(NoTree, tree_holds, ("in", "x", "X"), ["x", "X"], tree)
                self.check_refused(NoTree, tree_holds, ("not", ("in", "x", "X")), ["x", "X"], tree)
        self.check_refused(NoTree, tree_holds, ("some", "x", ("same", "x", "x")), [], node(1))
        self.check_refused(NoTree, tree_holds, ("in", "x", "X"), ["x", "X", "y"], node(8))
        # The told name's track is none of the frame's.
        self.check_refused(NoTree, tree_holds, ("some", "y", ("same", "y", "x")), ["x"], node(2, node(1)))

    def test_several_at_once(self):
        bad_saying = ("in", "y", "X")
        good_saying = ("in", "x", "X")
        for frame in NO_FRAMES + FOUR_NAMES:
            self.check_refused(NoFrame, tree_holds, bad_saying, frame, node(3))
            self.check_refused(NoFrame, tree_holds, good_saying, frame, node(99))
            self.check_refused(NoFrame, tree_holds, bad_saying, frame, node(99))
            self.check_refused(NoFrame, tree_holds, None, frame, node(-1))
        for saying in (bad_saying, None, "x in X", ["in", "x", "X"], ("ahead", "x", "x")):
            self.check_refused(NoSaying, tree_holds, saying, ["x", "X"], node(99))
            self.check_refused(NoSaying, tree_holds, saying, ["x", "X"], node(3, None, node(-1)))
        self.check_refused(NoTree, tree_holds, good_saying, ["x", "X"], node(1, node(1), node(99)))


class UnchangedTest(HoldsCase):

    def test_saying_frame_and_tree_stay_as_they_were(self):
        for text, frame, tree in (("some y (y in X and y left x)", ["x", "X"], node(2, node(1), node(0))),
                                  ("all Y (X within Y or some x (x in X and not x in Y))", ["X"], node(1, node(0))),
                                  ("x in X", ["x", "X"], node(0))):
            saying = read(text)
            before = copy.deepcopy((saying, frame, tree))
            first = tree_holds(saying, frame, tree)
            self.assertEqual((saying, frame, tree), before)
            self.assertIs(tree_holds(saying, frame, tree), first)

    def test_earlier_questions_leave_no_trace(self):
        saying = read("some y (y left x and y in X)")
        for time in range(3):
            self.assertIs(tree_holds(saying, ["x", "X"], node(2, node(1))), True)
            self.assertIs(tree_holds(saying, ["x", "X"], node(0, node(1))), False)
            self.assertIs(tree_holds(saying, ["X", "x"], node(1, node(2))), True)
            self.assertIs(tree_holds(saying, ["X", "x"], node(2, node(1))), False)
            self.check_refused(NoSaying, tree_holds, saying, ["x"], node(1))


if __name__ == "__main__":
    unittest.main()
