"""Codes and small helpers that several tests use."""

from openrings.codes import Code
from openrings.errors import BadKind, BadLine, BadWay, Refused, TooMany
from openrings.play import play

KINDS = ("find", "put", "set", "take", "drop")
WAYS = ("plain", "stones", "sorted")

FIND = """at = first
walk not at is empty
if at is key
keep out
stop
end
go
end"""
PUT = """at = first
walk not at is empty
go
end
at gets hand"""
TAKE = """hole = at
walk not at is empty
if at is hole
go
else
if from hole <= from home
hole gets at
keep hole
end
go
end
end
empty hole"""
SET = """at = first
walk not at is empty and not at is key
go
end
at gets hand"""


class Strange:
    """A value that can be neither compared nor hashed."""

    __hash__ = None

    def __eq__(self, other):
        raise RuntimeError("compared")


def anything():
    """Values of all kinds, none of which is a kind, a way, a ring or what can be handed."""
    return [None, True, False, -1, 10 ** 30, "", "Plain", "nothing", b"plain", [], ["find"], {},
            {"plain": 1}, set(), (), ((),), ([],), ({},), [None], (1,), (1, 2, 3, 4), ("stone",),
            object(), Strange(), (Strange(), Strange()), 1.5, len]


def text_of(*lines):
    return "\n".join(lines)


def as_lines(text):
    return text.split("\n")


def told(kind, way, text):
    """What comes of making a code: "right", or the error's name and what it tells."""
    try:
        Code(kind, way, text)
    except (BadLine, Refused) as error:
        return type(error).__name__, error.line
    except TooMany as error:
        return "TooMany", error.what, error.many, error.most
    except (BadKind, BadWay) as error:
        return type(error).__name__
    return "right"


def played(kind, way, lines, ring, handed):
    return play(Code(kind, way, text_of(*lines)), ring, handed)

# Codes that serve, and the ways in which they do.
FIND_OUT = text_of("at = first", "walk not at is empty and not at is key", "go", "end", "if at is key", "out = at", "end")
FIND_EARLY = text_of("at = first", "walk not at is empty and from first <= from home", "if at is key", "keep out", "quit",
                     "end", "go", "end")
PUT_STONES = text_of("at = first", "walk at is item", "go", "end", "at gets hand")
PUT_SORTED = text_of("at = first", "walk not at is empty", "if from home < from hand", "swap hand at", "end", "go", "end",
                     "at gets hand")
SET_STONES = text_of("at = first", "walk not at is empty and not at is key", "if at is stone and low is none", "keep low",
                     "end", "go", "end", "if at is empty and not low is none", "low gets hand", "else", "at gets hand",
                     "end")
SET_SORTED = text_of("at = first", "walk not at is empty and not at is key and from hand <= from home", "go", "end",
                     "if at is key", "at gets hand", "quit", "end", "walk not at is empty", "swap hand at", "go", "end",
                     "at gets hand")
TAKE_STONES = text_of("low = next at", "if low is empty", "empty at", "else", "stone at", "end")
TAKE_SORTED = text_of("hole = at", "at = next at", "walk not at is empty and from at < from home", "hole gets at",
                      "keep hole", "go", "end", "empty hole")
TAKE_NUMBERS = text_of("hole = at", "at = next at", "walk not at is empty", "if hole < at", "if home <= hole",
                       "hole gets at", "keep hole", "else", "if at < home", "hole gets at", "keep hole", "end", "end",
                       "else", "if home <= hole and at < home", "hole gets at", "keep hole", "end", "end", "go", "end",
                       "empty hole")
DROP_STONES = text_of("at = first", "walk not at is empty and not at is key", "go", "end", "if at is key", "stone at", "end")
DROP = text_of("at = first", "walk not at is empty and not at is key", "go", "end", "if at is empty", "quit", "end",
               "hole = at", "at = next at", "walk not at is empty", "if from hole <= from home", "hole gets at",
               "keep hole", "end", "go", "end", "empty hole")
DROP_SORTED = text_of("at = first", "walk not at is empty and not at is key", "go", "end", "if at is empty", "quit", "end",
                      "hole = at", "at = next at", "walk not at is empty and from at < from home", "hole gets at",
                      "keep hole", "go", "end", "empty hole")
SERVING = (
    ("find", FIND, WAYS),
    ("find", FIND_OUT, WAYS),
    ("find", FIND_EARLY, ("sorted",)),
    ("put", PUT, ("plain", "stones")),
    ("put", PUT_STONES, ("plain", "stones")),
    ("put", PUT_SORTED, ("plain", "sorted")),
    ("set", SET, ("plain", "stones")),
    ("set", SET_STONES, ("stones",)),
    ("set", SET_SORTED, ("sorted",)),
    ("take", TAKE, ("plain", "sorted")),
    ("take", TAKE_STONES, ("stones",)),
    ("take", TAKE_SORTED, ("sorted",)),
    ("take", TAKE_NUMBERS, ("plain", "sorted")),
    ("drop", DROP_STONES, ("stones",)),
    ("drop", DROP, ("plain", "sorted")),
    ("drop", DROP_SORTED, ("sorted",)),
)
