"""Scenes: what is known of a play at some line, as far as it can matter from there on.

A scene stands for all plays, on rings of every size, that have come to its line in the same order
of spots. Rows that were met are named by their distance from the row where the play began; an item
by the row where it lay. A home that is none of the rows that are known gets a name below -9.
"""

from openrings.lives import REGISTERS

# The item of the hand at the start; and in the place of the row where the item with the handed key
# lay: it was met and is of no use any more, or it is in none of the rows.
HANDED = -1
GONE = -2
NOWHERE = -3
FIRST_NAME = -10
SEAM = "seam"


class Scene:
    """One scene.

    `number` is the line that is played next; `headed` tells that it is the head of a loop that was
    met already, `last_head` the last head that was met without a step since. `order` are the spots
    that are known, one behind the other along the run, and `room` tells of each how many unknown
    rows lie right before it. `rows` has what rows hold that still matters, `homes` the homes of
    items that are known. `front` is the last row that was met, `closed` whether it was empty when
    the play began. `key` is the row where the item with the handed key lay. `last` is, in the way
    sorted, the home of the item that lay in the front row. `open_seam`: whether the row 0 may still
    be met. `paid` counts rows ahead of the row where the play began; `fresh` is the next name for a
    home. `trail` are the facts that led here, each with those before it. `doomed`: the play breaks
    lawful if it is done; else `debt` is what is known for the end, or None if that is not asked.
    """

    def __init__(self):
        self.number = 1
        self.headed = False
        self.last_head = 0
        self.steps = 0
        self.looks = 0
        self.registers = {name: None for name in REGISTERS}
        self.hand = None
        self.order = []
        self.room = []
        self.rows = {}
        self.homes = {}
        self.front = -1
        self.closed = False
        self.key = None
        self.last = None
        self.open_seam = False
        self.paid = 0
        self.fresh = FIRST_NAME
        self.trail = None
        self.doomed = False
        self.debt = None

    def clone(self):
        """A scene like this one that can be changed on its own."""
        other = Scene()
        other.number = self.number
        other.headed = self.headed
        other.last_head = self.last_head
        other.steps = self.steps
        other.looks = self.looks
        other.registers = dict(self.registers)
        other.hand = self.hand
        other.order = list(self.order)
        other.room = list(self.room)
        other.rows = dict(self.rows)
        other.homes = dict(self.homes)
        other.front = self.front
        other.closed = self.closed
        other.key = self.key
        other.last = self.last
        other.open_seam = self.open_seam
        other.paid = self.paid
        other.fresh = self.fresh
        other.trail = self.trail
        other.doomed = self.doomed
        other.debt = None if self.debt is None else self.debt.clone()
        return other

    def note(self, fact):
        """Adds a fact to the trail."""
        self.trail = (self.trail, fact)

    def cost(self):
        """How many rows are there for certain."""
        return self.paid + self.front + 1

    def row_of(self, name):
        """The row that a register holds, or None; also for first and none."""
        if name == "first":
            return 0
        return None if name == "none" else self.registers[name]

    def home_of(self, item):
        """The home of an item, or None if it is not known."""
        # The home of what is handed is the row where the play begins.
        if item == HANDED or item == self.key:
            return 0
        return self.homes.get(item)

    def is_before(self, one, other):
        """Whether a spot lies before another one in the run."""
        if one >= 0 and other >= 0:
            return one < other
        return self.order.index(one) < self.order.index(other)


def is_item(held):
    """Whether what a row of a scene holds is an item."""
    return isinstance(held, int)


def splits(count, plan, is_elastic):
    """The ways to take one of the unknown rows between two spots, triples (before, behind, cost)."""
    if is_elastic and plan.is_free:
        return [(0, 0, 0)]
    if count == plan.room:
        # There are so many rows, or more; they are taken to be enough for all.
        return [(count, count, 0)]
    found = [(before, count - 1 - before, 0) for before in range(count)]
    if is_elastic:
        # A ring with one row more ahead of the row where the play began.
        found.extend([(before, count - before, 1) for before in range(count + 1)])
    return found


def at_home(scene, item, spot):
    """A scene in which the home of an item is a known spot."""
    other = scene.clone()
    other.homes[item] = spot
    other.note(("home", item, spot))
    return other


def new_home(scene, item, at, split):
    """A scene in which the home of an item is an unknown row right before the spot with an index."""
    before, behind, cost = split
    other = scene.clone()
    name = other.fresh
    other.fresh -= 1
    other.note(("spot", name, other.order[at - 1] if at > 0 else None, other.order[at]))
    other.order.insert(at, name)
    other.room[at:at + 1] = [before, behind]
    other.paid += cost
    other.homes[item] = name
    other.note(("home", item, name))
    return other


def with_home(scene, plan, item, lowest, highest):
    """The scenes in which the home of an item is known, from a spot (or None) to another one."""
    found = []
    start = scene.order.index(0)
    low = -1 if lowest is None else scene.order.index(lowest)
    for at in range(max(low, 0), scene.order.index(highest) + 1):
        if scene.order[at] != SEAM:
            found.append(at_home(scene, item, scene.order[at]))
        if at > low:
            for split in splits(scene.room[at], plan, at <= start):
                found.append(new_home(scene, item, at, split))
    return found


def drop_spots(scene, plan, kept, has_homes):
    """Forgets the spots that are not among those that are kept."""
    order = []
    room = []
    count = 0
    start = -1
    for at, spot in enumerate(scene.order):
        count = min(count + scene.room[at], plan.room)
        if spot in kept:
            order.append(spot)
            room.append(count)
            count = 0
            if spot == 0:
                start = len(order) - 1
        elif spot != SEAM:
            count = min(count + 1, plan.room)
    if not has_homes:
        room = [0] * len(order)
    elif plan.is_free:
        room[:start + 1] = [0] * (start + 1)
    if scene.last is not None:
        # In the way sorted no more homes come that lie before the last one.
        low = order.index(scene.last) + 1
        room[:low] = [0] * low
    scene.order = order
    scene.room = room


def number_rank(scene, spot):
    """A number by which numbers of rows are compared."""
    at = scene.order.index(spot)
    # The rows behind the border between the last row and the row 0 have the smaller numbers.
    if SEAM in scene.order and at > scene.order.index(SEAM):
        return at - len(scene.order)
    return at


def distance_rank(scene, spot):
    """A number by which distances from rows to the register at are compared."""
    here = scene.order.index(scene.registers["at"])
    at = scene.order.index(spot)
    return here - at if at <= here else len(scene.order) + here - at
