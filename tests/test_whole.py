"""Points 2 and 3 and the interface: what all modules say of rows and of trees agrees, and nothing is changed."""

import copy
import importlib
import inspect
import random
import unittest

from setsays.asks import how_many, number_of, row_by, shortest, verdict
from setsays.built import built, fitting
from setsays.errors import TooGreat
from setsays.groves import smallest, tree_takes
from setsays.grown import tree_built, tree_fitting, tree_verdict
from setsays.lines import said
from setsays.machines import takes
from setsays.names import is_frame, is_place, is_set
from setsays.rows import fits, holds
from setsays.sayings import free_names, is_saying, is_tree_saying
from setsays.texts import read, shown
from setsays.trees import tree_fits, tree_holds
from tests.helpers import ProgramCase, every_row, made_up_saying, rows_of
from tests.tree_helpers import FRAMES, count_nodes, made_up_tree_saying, trees_up_to

# The arguments of all that the interface names.
INTERFACE = {
    "names": {"is_place": ["thing"], "is_set": ["thing"], "is_frame": ["thing"]},
    "sayings": {"is_saying": ["thing", "frame"], "is_tree_saying": ["thing", "frame"], "free_names": ["saying"]},
    "texts": {"shown": ["saying"], "read": ["text"]},
    "rows": {"fits": ["frame", "row"], "holds": ["saying", "frame", "row"]},
    "machines": {"takes": ["machine", "row"], "gone": ["machine", "row"], "reduced": ["machine"],
                 "parted": ["one", "other"]},
    "joins": {"flipped": ["machine"], "met": ["one", "other"], "joined": ["one", "other"],
              "widened": ["machine", "track"], "dropped": ["machine", "track"]},
    "built": {"fitting": ["frame"], "built": ["saying", "frame"]},
    "asks": {"shortest": ["machine"], "verdict": ["saying", "frame"], "how_many": ["machine", "length"],
             "row_by": ["machine", "length", "number"], "number_of": ["machine", "row"]},
    "trees": {"tree_fits": ["frame", "tree"], "tree_holds": ["saying", "frame", "tree"]},
    "groves": {"tree_takes": ["machine", "tree"], "tree_reduced": ["machine"], "tree_flipped": ["machine"],
               "tree_met": ["one", "other"], "tree_joined": ["one", "other"], "tree_dropped": ["machine", "track"],
               "smallest": ["machine"]},
    "grown": {"tree_fitting": ["frame"], "tree_built": ["saying", "frame"], "tree_verdict": ["saying", "frame"]},
    "lines": {"said": ["line"]},
}

ROW_MACHINE = (2, ((0, 1, 2, 3), (1, 1, 0, 2), (3, 2, 2, 0), (3, 0, 1, 2)), (False, True, False, True))
TREE_MACHINE = (1, (((1, 2, 0), (0, 1, 2), (2, 0, 1)), ((2, 2, 1), (1, 0, 0), (0, 2, 1))), (False, True, False))
TREE = (1, (0, None, (1, None, None)), (0, None, None))
SAYING = ("some", "y", ("and", ("ahead", "y", "x"), ("in", "y", "X")))
TREE_SAYING = ("some", "y", ("and", ("above", "y", "x"), ("in", "y", "X")))
# Things of the kinds that the arguments are told of; for a tree question the saying and the frame are those for trees.
THINGS = {"thing": SAYING, "frame": ["x", "X"], "saying": SAYING, "text": "x in X", "row": [2, 1, 0],
          "machine": ROW_MACHINE, "one": ROW_MACHINE, "other": ROW_MACHINE[:2] + ((True, False, True, True),),
          "track": 1, "length": 3, "number": 2, "line": "always x X ; x in X"}
TREE_THINGS = {"frame": ["X"], "tree": TREE, "machine": TREE_MACHINE, "one": TREE_MACHINE,
               "other": TREE_MACHINE[:2] + ((True, False, True),), "track": 0, "saying": read("some x x in X")}


def as_tree(row, side):
    """The row as a tree that goes down this one side alone."""
    tree = None
    for letter in reversed(row):
        tree = (letter, tree, None) if side == "left" else (letter, None, tree)
    return tree


def as_tree_saying(saying, side):
    """What a saying of rows says of trees that go down this one side alone."""
    words = {"ahead": "above", "next": side}
    return tuple([as_tree_saying(part, side) if part.__class__ is tuple else words.get(part, part) for part in saying])


def told(ask):
    """The answer, or the name of the refusal."""
    try:
        return ask()
    except TooGreat:
        return "TooGreat"


def lists_in(thing):
    """The lists in an answer, itself among them."""
    if thing.__class__ is list:
        return [thing] + [found for part in thing for found in lists_in(part)]
    return [found for part in thing for found in lists_in(part)] if thing.__class__ is tuple else []


def asked():
    """Each function of the interface with things of the right kinds, each time new ones."""
    for module, functions in INTERFACE.items():
        for name, arguments in functions.items():
            things = {**THINGS, **TREE_THINGS} if module in ("trees", "groves", "grown") else THINGS
            function = getattr(importlib.import_module("setsays." + module), name)
            yield function, copy.deepcopy([things[argument] for argument in arguments])


class InterfaceTest(unittest.TestCase):

    def test_names_and_arguments(self):
        for module, functions in INTERFACE.items():
            found = importlib.import_module("setsays." + module)
            for name, arguments in functions.items():
                self.assertEqual(list(inspect.signature(getattr(found, name)).parameters), arguments, name)


class OwnTest(unittest.TestCase):

    def test_what_is_handed_in_stays_and_what_is_told_is_the_askers_own(self):
        lists = 0
        for function, things in asked():
            with self.subTest(function.__name__):
                before = copy.deepcopy(things)
                if function is number_of:
                    before[1] = things[1] = row_by(things[0], 3, 4)
                    before = copy.deepcopy(before)
                answer = function(*things)
                self.assertEqual(things, before)
                kept = copy.deepcopy(answer)
                again = function(*things)
                self.assertEqual(again, kept)
                for one in lists_in(answer):
                    lists += 1
                    self.assertFalse([other for other in lists_in(again) + lists_in(tuple(things)) if other is one])
                    one.append("changed")
                    one[:1] = ["changed", "changed"]
                self.assertEqual(things, before)
                self.assertEqual(function(*things), kept)
                self.assertEqual(again, kept)
        self.assertGreaterEqual(lists, 5)

    def test_what_is_asked_in_between_changes_nothing(self):
        first = [function(*things) for function, things in asked() if function is not number_of]
        kept = copy.deepcopy(first)
        for function, things in reversed(list(asked())):
            if function is not number_of:
                function(*things)
        self.assertEqual([function(*things) for function, things in asked() if function is not number_of], kept)
        self.assertEqual(first, kept)


class RowsAsTreesTest(unittest.TestCase):

    def test_fits_and_holds_and_takes(self):
        chance = random.Random(3)
        counts = {True: 0, False: 0}
        for time in range(150):
            frame = list(chance.choice(FRAMES))
            saying = made_up_saying(chance, frame, chance.randrange(2, 7), ("ahead", "next"), 3)
            if not is_saying(saying, frame):
                continue
            machine = built(saying, frame)
            rows = rows_of(len(frame), 1) + [[]]
            rows += [[chance.randrange(2 ** len(frame)) for letter in range(length)] for length in (2, 3, 3, 4, 5, 8)]
            for side in ("left", "right"):
                of_trees = as_tree_saying(saying, side)
                self.assertTrue(is_tree_saying(of_trees, frame))
                tree_machine = told(lambda: tree_built(of_trees, frame))
                for row in rows:
                    tree = as_tree(row, side)
                    self.assertIs(fits(frame, row), tree_fits(frame, tree))
                    self.assertIs(takes(fitting(frame), row), tree_takes(tree_fitting(frame), tree))
                    truth = holds(saying, frame, row)
                    counts[truth] += 1
                    self.assertIs(tree_holds(of_trees, frame, tree), truth, (saying, frame, row))
                    self.assertIs(takes(machine, row), truth)
                    if tree_machine != "TooGreat":
                        self.assertIs(tree_takes(tree_machine, tree), truth)
        self.assertGreater(min(counts.values()), 500, counts)

    def test_the_other_side_means_nothing(self):
        for row in every_row(2, 3):
            for side, other in (("left", "right"), ("right", "left")):
                for word in (other, "above"):
                    self.assertIs(tree_holds((word, "x", "y"), ["x", "y"], as_tree(row, side)),
                                  word == "above" and holds(("ahead", "x", "y"), ["x", "y"], row))

    def test_verdicts(self):
        # Of trees in which none goes down the other side, the smallest that tells no has as many nodes as the row.
        chance = random.Random(30)
        counts = {"yes": 0, "no": 0}
        for time in range(150):
            frame = list(chance.choice(([], ["x"], ["X"])))
            saying = made_up_saying(chance, frame, chance.randrange(2, 6), ("ahead", "next"), 3)
            if not is_saying(saying, frame):
                continue
            found = verdict(saying, frame)
            for side, other in (("left", "right"), ("right", "left")):
                of_trees = ("or", read("some u some v u " + other + " v"), as_tree_saying(saying, side))
                of_trees = told(lambda: tree_verdict(of_trees, frame))
                if of_trees != "TooGreat":
                    counts[found[0]] += 1
                    self.assertEqual(of_trees[0], found[0])
                    self.assertEqual([count_nodes(tree) for tree in of_trees[1:]], [len(row) for row in found[1:]])
        self.assertGreater(min(counts.values()), 30, counts)


class AgreeTest(ProgramCase):

    def test_of_rows(self):
        chance = random.Random(31)
        for time in range(60):
            frame = chance.sample(["x", "y", "X", "Y"], chance.randrange(3))
            saying = made_up_saying(chance, frame, chance.randrange(2, 6))
            if not is_saying(saying, frame):
                continue
            self.assertEqual(read(shown(saying)), saying)
            self.assertEqual(sorted(set(free_names(saying)) - set(frame)), [])
            machine = built(saying, frame)
            self.check_form(machine, len(frame))
            held = [row for row in every_row(len(frame), 3) if holds(saying, frame, row)]
            for length in range(4):
                wanted = [row for row in held if len(row) == length]
                self.assertEqual(how_many(machine, length), len(wanted))
                self.assertEqual([row_by(machine, length, number) for number in range(len(wanted))], wanted)
                self.assertEqual([number_of(machine, row) for row in wanted], list(range(len(wanted))))
            if held:
                self.assertEqual(shortest(machine), held[0])
            against = [row for row in every_row(len(frame), 3) if fits(frame, row) and row not in held]
            found = verdict(saying, frame)
            if against:
                self.assertEqual(found, ("no", against[0]))
            elif found[0] == "no":
                self.assertGreater(len(found[1]), 3)
                self.assertTrue(fits(frame, found[1]) and not holds(saying, frame, found[1]))

    def test_of_trees(self):
        chance = random.Random(32)
        for time in range(60):
            frame = list(chance.choice(FRAMES[:7]))
            saying = made_up_tree_saying(chance, frame, chance.randrange(2, 6))
            if not is_tree_saying(saying, frame):
                continue
            machine = tree_built(saying, frame)
            trees = trees_up_to(len(frame), 3)
            held = [tree for tree in trees if tree_holds(saying, frame, tree)]
            self.assertEqual(held, [tree for tree in trees if tree_takes(machine, tree)])
            found = smallest(machine)
            if held:
                self.assertEqual(found[0], "none" if held[0] is None else "tree")
                self.assertEqual([count_nodes(tree) for tree in found[1:]], [count_nodes(held[0])] * (len(found) - 1))
            against = [tree for tree in trees if tree_fits(frame, tree) and tree not in held]
            found = tree_verdict(saying, frame)
            if against:
                self.assertEqual(found[0], "no")
                self.assertEqual(count_nodes(found[1]), count_nodes(against[0]))
            self.assertEqual(said("treealways " + " ".join(frame) + " ; " + shown(saying)), found[0])

    def test_names_and_frames(self):
        self.assertTrue(is_place("x") and is_set("X") and is_frame(["x", "X"]))
        for frame in FRAMES:
            self.assertTrue(is_frame(frame))
            self.assertEqual([is_place(name) for name in frame], [not is_set(name) for name in frame])


if __name__ == "__main__":
    unittest.main()
