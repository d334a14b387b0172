"""Codes and small helpers that several tests use."""

from openrings.codes import Code
from openrings.errors import BadKind, BadLine, BadWay, Refused, TooMany
from openrings.play import play

KINDS = ("find", "put", "set", "take", "drop")
WAYS = ("plain", "stones", "sorted")

FIND = """at = first
walk not at is empty
if at is key
keep out
stop
end
go
end"""
PUT = """at = first
walk not at is empty
go
end
at gets hand"""
TAKE = """hole = at
walk not at is empty
if at is hole
go
else
if from hole <= from home
hole gets at
keep hole
end
go
end
end
empty hole"""
SET = """at = first
walk not at is empty and not at is key
go
end
at gets hand"""


class Strange:
    """A value that can be neither compared nor hashed."""

    __hash__ = None

    def __eq__(self, other):
        raise RuntimeError("compared")


def anything():
    """Values of all kinds, none of which is a kind, a way, a ring or what can be handed."""
    return [None, True, False, -1, 10 ** 30, "", "Plain", "nothing", b"plain", [], ["find"], {},
            {"plain": 1}, set(), (), ((),), ([],), ({},), [None], (1,), (1, 2, 3, 4), ("stone",),
            object(), Strange(), (Strange(), Strange()), 1.5, len]


def text_of(*lines):
    return "\n".join(lines)


def told(kind, way, text):
    """What comes of making a code: "right", or the error's name and what it tells."""
    try:
        Code(kind, way, text)
    except (BadLine, Refused) as error:
        return type(error).__name__, error.line
    except TooMany as error:
        return "TooMany", error.what, error.many, error.most
    except (BadKind, BadWay) as error:
        return type(error).__name__
    return "right"


def played(kind, way, lines, ring, handed):
    return play(Code(kind, way, text_of(*lines)), ring, handed)
