"""Sayings: their forms, how great they may be, and in which frames they are let."""

from setsays.errors import NoFrame, NoSaying
from setsays.names import MOST_NAMES, is_frame, is_name, is_place, is_set

DEEPEST = 12
MOST_PARTS = 60
MOST_TREE_NAMES = 3

# What stands behind each first word, in order.
FORMS = {
    "in": ("place", "set"),
    "same": ("place", "place"),
    "within": ("set", "set"),
    "ahead": ("place", "place"),
    "next": ("place", "place"),
    "left": ("place", "place"),
    "right": ("place", "place"),
    "above": ("place", "place"),
    "not": ("saying",),
    "and": ("saying", "saying"),
    "or": ("saying", "saying"),
    "some": ("name", "saying"),
    "all": ("name", "saying"),
}
TELLING_WORDS = ("some", "all")
ROW_WORDS = ("ahead", "next")
TREE_WORDS = ("left", "right", "above")


def is_of_sort(thing, sort, deepest):
    """Whether the thing is of this sort of FORMS, and no deeper than told if it is a saying."""
    if sort == "place":
        return is_place(thing)
    if sort == "set":
        return is_set(thing)
    if sort == "name":
        return is_name(thing)
    return has_form(thing, deepest)


def has_form(thing, deepest):
    """Whether the thing has the form of a saying and is at most so deep."""
    # The bound goes down with each step, so that however deep a thing is, little of it is walked.
    if deepest == 0 or not isinstance(thing, tuple) or len(thing) == 0:
        return False
    # Texts first: another first thing may be one that no dict can be asked for.
    if not isinstance(thing[0], str) or thing[0] not in FORMS:
        return False
    sorts = FORMS[thing[0]]
    if len(thing) != 1 + len(sorts):
        return False
    return all([is_of_sort(part, sort, deepest - 1) for part, sort in zip(thing[1:], sorts)])


def inner_sayings(saying):
    """The sayings that stand straight in a saying: none in a bare one."""
    return [thing for thing in saying if isinstance(thing, tuple)]


def is_bare(saying):
    """Whether no saying stands in the saying."""
    return inner_sayings(saying) == []


def count_parts(saying):
    """How many parts the saying has, each counted as often as it stands there."""
    return 1 + sum([count_parts(inner) for inner in inner_sayings(saying)])


def is_any_saying(thing):
    """Whether the thing is a saying, whatever frame it may be let in."""
    return has_form(thing, DEEPEST) and count_parts(thing) <= MOST_PARTS


def is_let(saying, known, barred, most):
    """Whether a saying is let where these names are known, without the barred words, with so many names at most."""
    if len(known) > most or saying[0] in barred:
        return False
    if saying[0] in TELLING_WORDS:
        return saying[1] not in known and is_let(saying[2], known + [saying[1]], barred, most)
    if is_bare(saying):
        return all([name in known for name in saying[1:]])
    return all([is_let(inner, known, barred, most) for inner in inner_sayings(saying)])


def is_saying(thing, frame):
    """Whether the thing is a saying that is let in the frame."""
    return is_frame(frame) and is_any_saying(thing) and is_let(thing, frame, TREE_WORDS, MOST_NAMES)


def is_tree_saying(thing, frame):
    """Whether the thing is a saying that is let in the frame for trees."""
    return is_frame(frame) and is_any_saying(thing) and is_let(thing, frame, ROW_WORDS, MOST_TREE_NAMES)


def check_frame(frame):
    """Refuses what is no frame."""
    if not is_frame(frame):
        raise NoFrame("what is handed in as the frame is none")


def check_let(saying, frame):
    """Refuses what is no frame, and then what is no saying that is let in it."""
    check_frame(frame)
    if not is_saying(saying, frame):
        raise NoSaying("what is handed in as the saying is none that is let in the frame")


def check_tree_frame(frame):
    """Refuses what is no frame for trees."""
    check_frame(frame)
    if len(frame) > MOST_TREE_NAMES:
        raise NoFrame("a frame for trees has at most three names")


def check_tree_let(saying, frame):
    """Refuses what is no frame for trees, and then what is no saying that is let in it for trees."""
    check_tree_frame(frame)
    if not is_tree_saying(saying, frame):
        raise NoSaying("what is handed in as the saying is none that is let in the frame for trees")


def untold_names(saying, told):
    """The names in the bare ones that are not told round them, each as often as it comes."""
    if saying[0] in TELLING_WORDS:
        return untold_names(saying[2], told + [saying[1]])
    if is_bare(saying):
        return [name for name in saying[1:] if name not in told]
    found = []
    for inner in inner_sayings(saying):
        found.extend(untold_names(inner, told))
    return found


def free_names(saying):
    """The names in the bare ones that no some or all round them tells, each once, as they first come."""
    free = []
    for name in untold_names(saying, []):
        if name not in free:
            free.append(name)
    return free
