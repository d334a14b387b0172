"""Which promises a code keeps, and in which ways a text serves."""

from openrings.codes import Code, is_kind
from openrings.errors import BadKind, BadLine, BadPromise, Refused, TooMany
from openrings.plans import CHANGES
from openrings.rings import WAYS
from openrings.search import all_cases

PROMISES = ("inside", "ends", "lawful", "items", "out", "steady")
EARLY = ("inside", "ends")
LATE = ("lawful", "items", "out", "steady")
SERVING = ("inside", "ends", "lawful", "items", "out")


def is_promise(value):
    """Whether any value is a promise."""
    return isinstance(value, str) and value in PROMISES


def may_be_broken(code, promise):
    """Whether a promise may be broken, as far as the kind and the forms of the lines tell."""
    # Only find owes a row, and a find that leaves all rows as they were moves no item.
    if promise == "out":
        return code.kind == "find"
    if promise == "steady" and code.kind == "find":
        return False
    if promise in ("lawful", "steady") or (promise == "items" and code.kind == "find"):
        return any([line.form in CHANGES for line in code.program])
    return True


def broken(code, promises, is_least):
    """Cases that break promises, a dict from those that are broken to cases."""
    told = {}
    for group in (EARLY, LATE):
        goals = [("promise", name) for name in group if name in promises and may_be_broken(code, name)]
        told.update(all_cases(code, group == LATE, ("promise",), goals, is_least))
    return {event[1]: told[event] for event in told}


def keeps(code, promise):
    """Whether a code keeps a promise."""
    if not is_promise(promise):
        raise BadPromise(promise)
    return len(broken(code, (promise,), False)) == 0


def kept(code):
    """The promises that a code keeps."""
    told = broken(code, PROMISES, False)
    return tuple([name for name in PROMISES if name not in told])


def least_case(code, promise):
    """A case with the fewest rows that breaks a promise, or None."""
    if not is_promise(promise):
        raise BadPromise(promise)
    return broken(code, (promise,), True).get(promise)


def serves(kind, text):
    """The ways in which a text serves."""
    if not is_kind(kind):
        raise BadKind(kind)
    found = []
    for way in WAYS:
        try:
            code = Code(kind, way, text)
        except (BadLine, TooMany, Refused):
            continue
        if len(broken(code, SERVING, False)) == 0:
            found.append(way)
    return tuple(found)
