"""Which promises a play can break that has come to its end."""

from openrings.debts import check_ahead, finish, is_open, is_owed
from openrings.scenes import HANDED, NOWHERE


def missing_rows(plan, scene):
    """Empty rows that the ring needs behind the front row, a tuple."""
    needed = 2 if plan.kind in ("put", "set") else 1
    return (None,) * (needed - 1 if scene.closed else needed)


def broken_rest(plan, scene, owed):
    """The promise that is broken where the ring is lawful, or None."""
    if scene.debt.is_short:
        return "items"
    if plan.kind == "find":
        return None if scene.registers["out"] == owed else "out"
    return "steady" if scene.debt.is_moved else None


def key_row(scene):
    """The row where the item with the handed key lay, or None if it was not met."""
    return None if scene.key == NOWHERE else scene.key


def finish_all(plan, scene):
    """Is done with all rows; returns those whose items could want any row before them."""
    loose = []
    rows = sorted(scene.debt.was)
    for row in rows:
        if scene.debt is None:
            return []
        if is_open(scene, row):
            loose.append(row)
        finish(plan, scene, row)
    return [] if scene.debt is None else loose


def settle_counts(plan, scene):
    """Notes whether the items that are left are the owed ones."""
    debt = scene.debt
    if plan.kind == "find":
        return
    for item, copies in debt.count.items():
        if (copies > 0) != is_owed(plan, scene, item):
            debt.is_short = True


def closed_ends(plan, scene):
    """What comes of it where the play came to the empty row behind the run."""
    debt = scene.debt
    behind = missing_rows(plan, scene)
    found = []
    rest = broken_rest(plan, scene, key_row(scene))
    if len(behind) == 0:
        # The only empty row of the ring.
        if debt.is_filled:
            is_lawful = len(debt.gone) > 0 and check_ahead(scene)
        else:
            is_lawful = debt.ahead is None
        found.append((rest if is_lawful else "lawful", (), ()))
        behind = (None,)
    found.append((rest if debt.ahead is None else "lawful", behind, ()))
    return found


def wants_more(plan, scene):
    """A home with which an item in the next row breaks lawful, or None."""
    debt = scene.debt
    if plan.way != "sorted" or not plan.owes_homes:
        return debt.gone[-1] if len(debt.gone) > 0 else None
    last = scene.last
    if len(debt.gone) > 0 and not scene.is_before(debt.gone[-1], last):
        return last
    if debt.beside is not None and scene.is_before(last, debt.beside[0]):
        return last
    return None


def open_ends(plan, scene):
    """What comes of it where the play did not come to the end of the run."""
    debt = scene.debt
    behind = missing_rows(plan, scene)
    item = scene.front + 1
    if debt.ahead is not None:
        return [("lawful", behind, ())]
    found = [(broken_rest(plan, scene, key_row(scene)), behind, ())]
    wanted = wants_more(plan, scene)
    if wanted is not None:
        found.append(("lawful", ("item",) + behind, (("home", item, wanted),)))
    if may_have_key(plan, scene):
        found.append((broken_by_key(plan, scene, item), ("key",) + behind, ()))
    return found


def may_have_key(plan, scene):
    """Whether the item with the handed key may lie in the next row."""
    if plan.kind not in ("find", "set", "drop") or scene.key is not None:
        return False
    return scene.last is None or not scene.is_before(0, scene.last)


def broken_by_key(plan, scene, row):
    """The promise that is broken where the item with the handed key lies in the next row, or None."""
    debt = scene.debt
    if len(debt.gone) > 0 or (debt.beside is not None and scene.is_before(0, debt.beside[0])):
        return "lawful"
    if plan.kind == "find":
        return broken_rest(plan, scene, row)
    if plan.kind == "set" and debt.count.get(HANDED, 0) > 0:
        return "lawful"
    return "items"


def judge(plan, scene):
    """What can come of a play that is done: triples (promise, rows behind the front row, facts)."""
    if scene.debt is None:
        return [("lawful", missing_rows(plan, scene), ())]
    scene = scene.clone()
    loose = finish_all(plan, scene)
    if scene.debt is None:
        return [("lawful", missing_rows(plan, scene), ())]
    settle_counts(plan, scene)
    found = closed_ends(plan, scene) if scene.closed else open_ends(plan, scene)
    gone = scene.debt.gone
    for row in loose:
        if len(gone) > 0 and gone[0] < row:
            found.append(("lawful", missing_rows(plan, scene), (("home", row, gone[0]),)))
    return [end for end in found if end[0] is not None]
