"""Lines: what is asked by a text, and answered by one."""

from setsays.asks import check_length, how_many, verdict
from setsays.built import built
from setsays.errors import NoLine
from setsays.grown import tree_built, tree_verdict
from setsays.machines import takes
from setsays.names import FIGURES
from setsays.rows import check_row
from setsays.sayings import check_frame, check_let, check_tree_frame
from setsays.texts import read, words_between_blanks

# How many parts a line of each first word has.
PARTS = {"takes": 3, "always": 2, "rooms": 2, "many": 3, "treerooms": 2, "treealways": 2}
TREE_ASKS = ("treerooms", "treealways")
MOST_FIGURES = 3


def parts_of(line):
    """The parts of a line that asks something known: the words of the first one, and the others as they stand."""
    if not isinstance(line, str):
        raise NoLine("what is asked is no text")
    parts = line.split(";")
    words = words_between_blanks(parts[0])
    if not words or words[0] not in PARTS or len(parts) != PARTS[words[0]]:
        raise NoLine("the line has another first word, or another count of parts, than any that is known")
    return [words] + parts[1:]


def number_in(word):
    """The whole number that a word writes, None where it writes none."""
    if len(word) > MOST_FIGURES or not all([sign in FIGURES for sign in word]):
        return None
    return None if word.startswith("0") and word != "0" else int(word)


def numbers_in(text):
    """What the words of a text write, in order."""
    return [number_in(word) for word in words_between_blanks(text)]


def row_in(text, frame):
    """The row of the frame that the text writes."""
    row = numbers_in(text)
    check_row(frame, row)
    return row


def length_in(text):
    """The length that the text writes."""
    numbers = numbers_in(text)
    length = numbers[0] if len(numbers) == 1 else None
    check_length(length)
    return length


def saying_in(text, frame):
    """The saying that the text writes, let in the frame."""
    check_frame(frame)
    saying = read(text)
    check_let(saying, frame)
    return saying


def said_of_trees(ask, frame, text):
    """The answer to a line that asks of trees, of the saying that the text writes."""
    # What makes the machine refuses both, but a frame that is none goes ahead of a text that is none.
    check_tree_frame(frame)
    saying = read(text)
    if ask == "treerooms":
        return str(len(tree_built(saying, frame)[2]))
    return tree_verdict(saying, frame)[0]


def said_takes(frame, saying, row):
    """Whether the saying's machine takes the row."""
    return "yes" if takes(built(saying, frame), row) else "no"


def said_always(frame, saying):
    """The verdict, with its row's letters behind it."""
    found = verdict(saying, frame)
    return found[0] if found[0] == "yes" else " ".join(["no"] + [str(letter) for letter in found[1]])


def said(line):
    """The answer to a line."""
    parts = parts_of(line)
    ask = parts[0][0]
    frame = parts[0][1:]
    if ask in TREE_ASKS:
        return said_of_trees(ask, frame, parts[1])
    saying = saying_in(parts[1], frame)
    if ask == "takes":
        return said_takes(frame, saying, row_in(parts[2], frame))
    if ask == "many":
        length = length_in(parts[2])
        return str(how_many(built(saying, frame), length))
    if ask == "rooms":
        return str(len(built(saying, frame)[2]))
    return said_always(frame, saying)
