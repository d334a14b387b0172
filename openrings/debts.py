"""Debts: what is known of the rows of a scene that the code has changed, or may change."""

from openrings.lives import FILL, READ, TAKE, WRITE
from openrings.scenes import HANDED, is_item


class Debt:
    """What is known of the rows, for what the ring is like at the end.

    `was` has what the rows held at the start that may still change; the other rows that were met
    are done with. `count` tells of each item that can still be written how many rows that are done
    with hold it. `wanted` are rows that an item further on, in a row that is done with, must not
    find empty. `gone` are rows that are done with and were emptied, ascending. `left` and `right`
    have, in the way sorted, of the items in the rows beside, if these are done with, pairs: the
    home, and whether the item was not there at the start; `beside` is such a pair of the front row.
    `behind` and `ahead` bound the rows that may be empty at the end, if an item was put ahead of
    its home. `is_short` tells that items are not the owed ones, `is_moved` that one has moved,
    `is_filled` that the empty row behind the run was filled.
    """

    def __init__(self):
        self.was = {}
        self.count = {}
        self.wanted = {}
        self.gone = []
        self.left = {}
        self.right = {}
        self.beside = None
        self.behind = None
        self.ahead = None
        self.is_short = False
        self.is_moved = False
        self.is_filled = False

    def clone(self):
        """A debt like this one that can be changed on its own."""
        other = Debt()
        other.was = dict(self.was)
        other.count = dict(self.count)
        other.wanted = dict(self.wanted)
        other.gone = list(self.gone)
        other.left = dict(self.left)
        other.right = dict(self.right)
        other.beside = self.beside
        other.behind = self.behind
        other.ahead = self.ahead
        other.is_short = self.is_short
        other.is_moved = self.is_moved
        other.is_filled = self.is_filled
        return other

    def meet(self, row, held):
        """Meets a row."""
        self.was[row] = held
        if is_item(held):
            self.count[held] = 0
        if self.beside is not None:
            self.left[row] = self.beside
            self.beside = None


def doom(scene):
    """Notes that the play breaks lawful, if it is done."""
    scene.debt = None
    scene.doomed = True


def is_owed(plan, scene, item):
    """Whether a deed owes an item."""
    if plan.kind == "take":
        return item != 0
    return item == HANDED or item != scene.key or plan.kind == "put"


def note_row(plan, scene, start, held):
    """Compares what a row holds at the end with what it held at the start."""
    debt = scene.debt
    if held == start:
        return
    if plan.kind == "find":
        debt.is_short = True
    elif is_item(start):
        if plan.kind == "set" and start == scene.key:
            # The handed item lies in its place.
            debt.is_moved = debt.is_moved or held != HANDED
        elif is_owed(plan, scene, start):
            debt.is_moved = True


def empty_row(scene, row, is_wanted):
    """Notes that a row is empty at the end that was not so at the start."""
    debt = scene.debt
    if is_wanted:
        doom(scene)
        return
    debt.gone = sorted(debt.gone + [row])


def count_item(plan, scene, item):
    """Notes that a row holds an item at the end; False if its key is there twice."""
    count = scene.debt.count
    count[item] = count.get(item, 0) + 1
    copies = count[item]
    if plan.kind == "set" and item in (HANDED, scene.key):
        copies = count.get(HANDED, 0) + count.get(scene.key, 0)
    return copies == 1


def reach_item(plan, scene, row, home):
    """Notes that a row holds an item with a home at the end: what lies between is not empty."""
    debt = scene.debt
    if home != row and scene.is_before(row, home):
        put_ahead(plan, scene, row, home)
        return
    for gone in debt.gone:
        if gone < row and not scene.is_before(gone, home):
            doom(scene)
            return
    for other in debt.was:
        if other < row and not scene.is_before(other, home):
            debt.wanted[other] = True


def put_ahead(plan, scene, row, home):
    """Notes that an item lies ahead of its home at the end.

    This is lawful only if the walk from its home leads round the whole ring: the one empty row of
    the ring was filled, and those that were emptied lie between the item and its home.
    """
    debt = scene.debt
    if not plan.may_turn:
        doom(scene)
        return
    if debt.behind is None or debt.behind < row:
        debt.behind = row
    if debt.ahead is None or scene.is_before(home, debt.ahead):
        debt.ahead = home


def check_ahead(scene):
    """Whether items that were put ahead of their homes may still be lawful."""
    debt = scene.debt
    if debt.ahead is None:
        return True
    for gone in debt.gone:
        if not (debt.behind < gone and scene.is_before(gone, debt.ahead)):
            return False
    for row in list(debt.was) + debt.gone:
        if debt.behind < row and scene.is_before(row, debt.ahead):
            return True
    return False


def order_item(scene, row, home, is_new):
    """Compares homes with those in the rows beside; home is None where it does not matter."""
    debt = scene.debt
    left = debt.left.pop(row, None)
    right = debt.right.pop(row, None)
    if home is None:
        return True
    if left is not None and left[0] != home and not scene.is_before(left[0], home):
        return False
    if right is not None and right[0] != home and not scene.is_before(home, right[0]):
        return False
    if row - 1 in debt.was:
        debt.right[row - 1] = (home, is_new)
    if row + 1 in debt.was:
        debt.left[row + 1] = (home, is_new)
    elif row == scene.front:
        debt.beside = (home, is_new)
    return True


def finish(plan, scene, row):
    """Is done with a row: it stays as it is.

    Where the home of its item is not known it is taken to be this row, so that it asks for nothing.
    """
    debt = scene.debt
    held = scene.rows[row]
    start = debt.was.pop(row)
    is_wanted = debt.wanted.pop(row, False)
    note_row(plan, scene, start, held)
    if start is None:
        debt.is_filled = held is not None
    elif held is None:
        empty_row(scene, row, is_wanted)
    if is_item(held) and not count_item(plan, scene, held):
        doom(scene)
    if scene.doomed:
        return
    home = scene.home_of(held) if is_item(held) else None
    if home is not None:
        reach_item(plan, scene, row, home)
    if not scene.doomed and not fits_in(plan, scene, row, home, held != start):
        doom(scene)


def fits_in(plan, scene, row, home, is_new):
    """Whether what a row holds at the end may be lawful with what is known of other rows."""
    if plan.way == "sorted" and plan.owes_homes and not order_item(scene, row, home, is_new):
        return False
    return check_ahead(scene)


def is_open(scene, row):
    """Whether a row holds the item that it held at the start, with a home that is not known."""
    held = scene.rows[row]
    return held == row and scene.home_of(held) is None


def may_be_empty(scene, row, bits):
    """Whether a row that is not done with may be empty at the end."""
    return bits.get(row, 0) & WRITE != 0 or scene.rows[row] is None


def wanting(plan, scene, row, bits):
    """The scene in which the item in a row, with an unknown home, wants all rows that it can want.

    None if there is none: then nothing can come of it.
    """
    debt = scene.debt
    lower = [other for other in debt.gone if other < row]
    lower.extend([other for other in debt.was if other < row and may_be_empty(scene, other, bits)])
    if len(lower) == 0:
        return None
    other = scene.clone()
    other.note(("home", row, min(lower)))
    finish(plan, other, row)
    if other.debt is not None:
        reach_item(plan, other, row, min(lower))
    return other


def settle_items(plan, scene):
    """Notes of the items that can not be written any more whether they are left as is owed."""
    debt = scene.debt
    there = list(scene.rows.values()) + [scene.hand]
    for item in list(debt.count):
        if item not in there:
            copies = debt.count[item]
            if plan.kind != "find" and (copies > 0) != is_owed(plan, scene, item):
                debt.is_short = True
            # Another item with the handed key may come yet.
            if copies == 0 or plan.kind != "set" or item not in (HANDED, scene.key):
                del debt.count[item]


def is_settled(scene, row, bits):
    """Whether nothing can come to a row any more."""
    if bits & WRITE != 0:
        return False
    # The home of an item that may be moved is chosen by then.
    return bits & READ == 0 or not is_open(scene, row)


def is_changed(scene, row):
    """Whether a row holds something else than at the start."""
    return scene.rows[row] != scene.debt.was[row]


def matters_beside(scene, row, bits):
    """Whether homes in the rows beside a row may be compared with what it will hold."""
    return row in scene.debt.was and (bits.get(row, 0) & FILL != 0 or is_changed(scene, row))


def moving_homes(scene, bits):
    """The homes of the items that are known and may yet come to other rows."""
    there = [scene.rows[row] for row in scene.rows if bits.get(row, 0) & TAKE != 0] + [scene.hand]
    return [scene.home_of(item) for item in there if is_item(item) and scene.debt.count.get(item, 0) == 0]


def may_fall_back(scene, home, homes):
    """Whether an item may come right behind one with this home that was not moved."""
    # The homes of items that lay further on do not come before it.
    return any([scene.is_before(other, home) for other in homes])


def may_run_ahead(scene, home, homes):
    """Whether an item with a home further on may come right before one with this home."""
    return not scene.closed or any([scene.is_before(home, other) for other in homes])


def keep_beside(plan, scene, bits):
    """Forgets the homes in rows beside others that no home that is not right can come to."""
    debt = scene.debt
    if len(debt.left) == 0 and len(debt.right) == 0 and debt.beside is None:
        return
    homes = moving_homes(scene, bits)
    for row, (home, is_new) in list(debt.left.items()):
        if not is_new and not is_changed(scene, row):
            if bits.get(row, 0) & FILL == 0 or not may_fall_back(scene, home, homes):
                del debt.left[row]
    for row, (home, is_new) in list(debt.right.items()):
        if not is_new and not is_changed(scene, row):
            if bits.get(row, 0) & FILL == 0 or not may_run_ahead(scene, home, homes):
                del debt.right[row]
    if debt.beside is not None and not debt.beside[1]:
        if not plan.lives.fills[scene.number] or not may_fall_back(scene, debt.beside[0], homes):
            debt.beside = None


def home_matters(plan, scene, row, bits):
    """Whether the home of the item in a row that is not done with may matter at the end."""
    debt = scene.debt
    if debt.count.get(scene.rows[row], 0) > 0:
        return False
    if bits.get(row, 0) & TAKE != 0 or is_changed(scene, row):
        return True
    if any([gone < row for gone in debt.gone]):
        return True
    if any([other < row and may_be_empty(scene, other, bits) for other in debt.was]):
        return True
    if plan.way != "sorted":
        return False
    if row in debt.left or row in debt.right or (row == scene.front and plan.lives.fills[scene.number]):
        return True
    return matters_beside(scene, row - 1, bits) or matters_beside(scene, row + 1, bits)
