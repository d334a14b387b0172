"""Plays: what one code does on one ring with what is handed."""

from openrings.errors import BadHanded, BadRing
from openrings.rings import STONE, all_items, distance, home
from openrings.rings import is_item, is_lawful, is_pair, is_ring, is_whole

DONE = "done"
BEYOND = "beyond"
ENDLESS = "endless"


class State:
    """What a play has come to: the rows, the registers, the hand, and what was met."""

    def __init__(self, code, ring, handed):
        self.code = code
        self.start = ring
        self.rows = list(ring)
        self.registers = {"at": None, "hole": None, "low": None, "top": None, "out": None}
        # Words that a line may name beside the registers.
        self.registers["none"] = None
        self.registers["first"] = None
        self.hand = None
        self.key = None
        if code.kind == "take":
            self.registers["at"] = handed
        else:
            self.registers["first"] = home(handed, len(ring))
            self.key = handed[0]
        if code.kind in ("put", "set"):
            self.hand = handed
        self.steps = 0
        self.played = {}
        self.sided = {}
        self.met = []
        self.last_met = None

    def is_item_at(self, row):
        """Whether a row holds an item now."""
        return isinstance(self.rows[row], tuple)


def row_holds(state, name, what):
    """Whether the row of a register holds what a test asks for; None if the register is none."""
    row = state.registers[name]
    if row is None:
        return None
    held = state.rows[row]
    if what == "empty":
        return held is None
    if what == "stone":
        return held == STONE
    if what == "item":
        return state.is_item_at(row)
    return state.is_item_at(row) and held[0] == state.key


def row_named(state, name):
    """The row that a comparison names, or None if there is none."""
    many = len(state.rows)
    if name == "hand":
        return None if state.hand is None else home(state.hand, many)
    if name == "home":
        row = state.registers["at"]
        if row is None or not state.is_item_at(row):
            return None
        return home(state.rows[row], many)
    return state.registers[name]


def is_less(one, sign, other):
    """Compares two numbers by the sign of a test."""
    return one < other if sign == "<" else one <= other


def compare(state, question, words):
    """Whether a comparison holds; None if it names a row that there is not."""
    first, sign, second = words
    one = row_named(state, first)
    other = row_named(state, second)
    if one is None or other is None:
        return None
    if question == "numbers":
        return is_less(one, sign, other)
    at = state.registers["at"]
    if at is None:
        return None
    many = len(state.rows)
    return is_less(distance(one, at, many), sign, distance(other, at, many))


def ask(state, question, words):
    """Whether a part of a test holds; None if the play is beyond by it."""
    if question == "steps":
        return state.steps < int(words[0])
    if question == "same":
        return state.registers[words[0]] == state.registers[words[1]]
    if question == "row":
        return row_holds(state, words[0], words[1])
    return compare(state, question, words)


def holds(state, test):
    """Whether a test holds; None if the play is beyond by it."""
    for wanted, question, words in test:
        answer = ask(state, question, words)
        if answer is None:
            return None
        if answer != wanted:
            return False
    return True


def set_register(state, words):
    """`R = S`, `R = first`, `R = none`, and keep."""
    name, source = words
    state.registers[name] = state.registers[source]
    return DONE


def step(state, words):
    """`R = next S`, and go."""
    name, source = words
    row = state.registers[source]
    if row is None:
        return BEYOND
    if state.start[row] is None:
        return ENDLESS
    state.registers[name] = (row + 1) % len(state.rows)
    if name == "at" and source == "at":
        state.steps += 1
    return DONE


def copy_row(state, words):
    """`S gets T`."""
    row = state.registers[words[0]]
    source = state.registers[words[1]]
    if row is None or source is None:
        return BEYOND
    state.rows[row] = state.rows[source]
    return DONE


def fill(state, name, held):
    """Lets the row of a register hold something."""
    row = state.registers[name]
    if row is None:
        return BEYOND
    state.rows[row] = held
    return DONE


def move_item(state, form, name):
    """`S gets hand`, `hand gets S`, `swap hand S`."""
    row = state.registers[name]
    if row is None:
        return BEYOND
    if form != "lift" and state.hand is None:
        return BEYOND
    if form != "lay" and not state.is_item_at(row):
        return BEYOND
    hand = state.hand
    if form != "lay":
        state.hand = state.rows[row]
    if form != "lift":
        state.rows[row] = hand
    return DONE


def do_line(state, form, words):
    """Plays a line without a test; DONE if nothing went wrong, otherwise how the play ends."""
    if form == "set":
        return set_register(state, words)
    if form == "keep":
        return set_register(state, (words[0], "at"))
    if form == "next":
        return step(state, words)
    if form == "go":
        return step(state, ("at", "at"))
    if form == "copy":
        return copy_row(state, words)
    if form == "empty":
        return fill(state, words[0], None)
    if form == "stone":
        return fill(state, words[0], STONE)
    if form in ("lay", "lift", "swap"):
        return move_item(state, form, words[0])
    # What is left is stop and quit, which only lead elsewhere.
    return DONE


def station(state, number):
    """What can be seen at the head of a loop."""
    row = state.registers["at"]
    if state.rows[row] is None:
        return number, "empty", None
    if not state.is_item_at(row):
        return number, "stone", None
    return number, "item", home(state.rows[row], len(state.rows)) == row


def meet_head(state, number):
    """Meets the head of a loop; DONE if nothing went wrong, otherwise how the play ends."""
    state.met.append(station(state, number))
    now = (number, state.steps)
    if now == state.last_met:
        return ENDLESS
    state.last_met = now
    return DONE


def play_lines(state):
    """Plays the lines of the code, and tells how the play ended."""
    program = state.code.program
    number = 1
    while number <= len(program):
        line = program[number - 1]
        state.played[number] = True
        if line.form in ("if", "walk"):
            if line.form == "walk" and meet_head(state, number) == ENDLESS:
                return ENDLESS
            side = holds(state, line.test)
            if side is None:
                return BEYOND
            state.sided[number, side] = True
            number = line.then if side else line.other
        else:
            outcome = do_line(state, line.form, line.words)
            if outcome != DONE:
                return outcome
            number = line.then
    return DONE


def owed_items(kind, ring, handed):
    """The items that a deed owes that is no find."""
    key = ring[handed][0] if kind == "take" else handed[0]
    others = [item for item in all_items(ring) if item[0] != key]
    return others + [handed] if kind in ("put", "set") else others


def leaves_owed(kind, ring, handed, left):
    """Whether the items that are left are the owed ones."""
    if kind == "find":
        return left == ring
    return sorted(all_items(left)) == sorted(owed_items(kind, ring, handed))


def owed_row(ring, key):
    """The row of the item with a key, or None."""
    for row in range(len(ring)):
        if isinstance(ring[row], tuple) and ring[row][0] == key:
            return row
    return None


def is_steady(kind, ring, handed, left):
    """Whether each item that was there and is owed lies where it lay."""
    owed = {item[0]: True for item in owed_items(kind, ring, handed)}
    for before, after in zip(ring, left):
        if isinstance(before, tuple) and before[0] in owed:
            if not isinstance(after, tuple) or after[0] != before[0]:
                return False
    return True


def broken_promises(state, ended, handed):
    """The promises that a play breaks, in their order."""
    if ended != DONE:
        return ("inside",) if ended == BEYOND else ("ends",)
    kind = state.code.kind
    left = tuple(state.rows)
    if not is_ring(left) or not is_lawful(left, state.code.way):
        return ("lawful",)
    if not leaves_owed(kind, state.start, handed, left):
        return ("items",)
    # Only a find owes a row, and each find that leaves every row as it was is steady.
    if kind == "find":
        return () if state.registers["out"] == owed_row(state.start, handed[0]) else ("out",)
    return () if is_steady(kind, state.start, handed, left) else ("steady",)


class Play:
    """A play that has ended."""

    def __init__(self, state, ended, broken):
        self.ended = ended
        self.left = tuple(state.rows)
        self.out = state.registers["out"]
        self.steps = state.steps
        self.looks = len(state.met)
        self.broken = broken
        self._played = tuple(sorted(state.played))
        self._sided = tuple(sorted(state.sided))
        self._met = tuple(state.met)

    def lines(self):
        """The numbers of the lines that were played, ascending."""
        return self._played

    def sides(self):
        """The pairs (line, side) of the tests that were asked, ascending."""
        return self._sided

    def stations(self):
        """The stations in the order in which they were met."""
        return self._met


def can_be_played(code, ring):
    """Whether any value is a ring on which a code of this kind and way is played."""
    if not is_ring(ring) or not is_lawful(ring, code.way):
        return False
    return code.kind not in ("put", "set") or ring.count(None) >= 2


def can_be_handed(kind, ring, handed):
    """Whether any value is what can be handed to a deed of a kind on a ring."""
    if kind == "take":
        return is_whole(handed) and 0 <= handed < len(ring) and isinstance(ring[handed], tuple)
    if not (is_item(handed) if kind in ("put", "set") else is_pair(handed)):
        return False
    there = [item[1] for item in all_items(ring) if item[0] == handed[0]]
    return len(there) == 0 or (kind != "put" and there[0] == handed[1])


def play(code, ring, handed):
    """Plays a code on a case."""
    if not can_be_played(code, ring):
        raise BadRing(ring)
    if not can_be_handed(code.kind, ring, handed):
        raise BadHanded(handed)
    state = State(code, ring, handed)
    ended = play_lines(state)
    return Play(state, ended, broken_promises(state, ended, handed))
