"""Rings and what is handed, made of the facts that led to a scene."""

from openrings.play import play
from openrings.rings import STONE
from openrings.scenes import SEAM

HANDED_MARK = 7


class Facts:
    """The facts of a trail: what the rows hold that were met, homes of items, and bounds of spots.

    A bound is a triple (one, other, least): from the spot one to the other at least so many steps.
    """

    def __init__(self, trail, more, behind):
        self.rows = []
        self.homes = {}
        self.bounds = []
        self.has_seam = False
        facts = []
        while trail is not None:
            facts.append(trail[1])
            trail = trail[0]
        for fact in facts[::-1] + list(more):
            self.take(fact)
        self.rows.extend(behind)

    def take(self, fact):
        """Takes a fact."""
        if fact[0] == "row":
            self.rows.append(fact[1])
        elif fact[0] == "home":
            self.homes[fact[1]] = fact[2]
        elif fact[0] == "seam":
            self.has_seam = True
            self.bound(fact[1], SEAM)
            self.bound(SEAM, fact[2])
        else:
            self.bound(fact[2], fact[1])
            self.bound(fact[1], fact[3])

    def bound(self, one, other):
        """Takes it that a spot lies before another one."""
        # The border lies right before the row 0.
        if one is not None:
            self.bounds.append((one, other, 0 if one == SEAM else 1))

    def places(self):
        """The places of all spots, as far on as can be; None if there are none."""
        found = {}
        changed = True
        while changed:
            changed = False
            for one, other, least in self.bounds:
                highest = place_of(other, found)
                if highest is None:
                    continue
                highest = highest - least
                here = place_of(one, found)
                if here is None or here > highest:
                    if one != SEAM and one >= 0:
                        return None
                    found[one] = highest
                    changed = True
        return found


def place_of(spot, places):
    """The place of a spot: of a row that was met its own number, otherwise the one that is told."""
    return places.get(spot) if spot == SEAM or spot < 0 else spot


def item_homes(plan, facts, places):
    """The homes of all items, as places."""
    found = {}
    last = 0
    for row, what in enumerate(facts.rows):
        if what in ("item", "key"):
            if row in facts.homes:
                last = place_of(facts.homes[row], places)
            elif what == "key":
                last = 0
            elif plan.way != "sorted":
                last = row
            found[row] = last
    return found


def make_case(plan, trail, more, behind):
    """A case with the facts of a trail and more, and rows behind the front row, or None."""
    facts = Facts(trail, more, behind)
    places = facts.places()
    if places is None:
        return None
    homes = item_homes(plan, facts, places)
    first = min([0] + list(homes.values()))
    seam = places[SEAM] if facts.has_seam else first
    many = len(facts.rows) - first
    ring = [None] * many
    for place in range(first, 0):
        ring[(place - seam) % many] = (1 - place, (first - seam) % many, 0)
    for row, what in enumerate(facts.rows):
        at = (row - seam) % many
        if what == STONE:
            ring[at] = STONE
        elif row in homes:
            ring[at] = (0 if what == "key" else many + row + 1, (homes[row] - seam) % many, 0)
    return tuple(ring), handed(plan.kind, (0 - seam) % many)


def handed(kind, row):
    """What is handed where plays begin at a row."""
    if kind == "take":
        return row
    return (0, row, HANDED_MARK) if kind in ("put", "set") else (0, row)


def comes_up(code, event, case):
    """Whether an event comes up in the play of a case."""
    told = play(code, case[0], case[1])
    if event[0] == "promise":
        return event[1] in told.broken
    if event[0] == "line":
        return event[1] in told.lines()
    if event[0] == "side":
        return (event[1], event[2]) in told.sides()
    return event[1] in told.stations()
