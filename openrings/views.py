"""What of a scene is kept at a line, and how it is told from other scenes."""

from openrings.debts import finish, home_matters, is_open, is_owed, is_settled, keep_beside, settle_items, wanting
from openrings.lives import HOME, READ, REGISTERS
from openrings.moves import has_known_homes
from openrings.scenes import GONE, HANDED, NOWHERE, SEAM, drop_spots, is_item

# Labels that stand in the place of the label of an item.
EMPTY = -1
STONES = -2
LOST = -3
FREE = -4
KEYED = -5
NOTHING = -6


def bits_by_row(plan, scene):
    """What may still be asked of each row that is known, through the registers."""
    bits = plan.lives.bits[scene.number]
    found = {}
    for name in REGISTERS + ("first",):
        row = scene.row_of(name)
        if row is not None:
            found[row] = found.get(row, 0) | bits[name]
            for at, more in enumerate(plan.lives.ahead[scene.number][name]):
                if row + 1 + at <= scene.front:
                    found[row + 1 + at] = found.get(row + 1 + at, 0) | more
    return found


def settle_rows(plan, scene, bits):
    """The scenes that come of being done with all rows to which nothing can come any more."""
    scenes = [scene]
    rows = sorted(scene.debt.was)
    for row in rows:
        found = []
        for other in scenes:
            if other.debt is not None and is_settled(other, row, bits.get(row, 0)):
                if plan.seeks_lawful and plan.can_empty and is_open(other, row):
                    wanted = wanting(plan, other, row, bits)
                    if wanted is not None:
                        found.append(wanted)
                finish(plan, other, row)
            found.append(other)
        scenes = found
    return scenes


def keep_homes(plan, scene, bits):
    """Forgets the homes that can not matter any more."""
    debt = scene.debt
    if not has_known_homes(plan, scene):
        if scene.key is None and scene.last is not None and scene.is_before(0, scene.last):
            # No item whose home is the row where the play began can lie further on.
            scene.key = NOWHERE
        scene.homes = {}
        scene.last = None
        return
    kept = {}
    for row, held in scene.rows.items():
        if is_item(held) and held in scene.homes:
            asked = bits.get(row, 0) & HOME != 0
            if asked or (debt is not None and row in debt.was and home_matters(plan, scene, row, bits)):
                kept[held] = scene.homes[held]
    hand = scene.hand
    if hand is not None and hand in scene.homes:
        asked = plan.lives.bits[scene.number]["hand"] & HOME != 0
        if asked or (debt is not None and debt.count.get(hand) == 0):
            kept[hand] = scene.homes[hand]
    scene.homes = kept
    if scene.closed:
        scene.last = None


def keep_gone(plan, debt):
    """Forgets the emptied rows with another one behind them that will do for all."""
    kept = []
    for at, row in enumerate(debt.gone):
        if at == len(debt.gone) - 1 or (at == 0 and plan.may_turn):
            kept.append(row)
        elif any([row < other < debt.gone[at + 1] for other in debt.was]):
            kept.append(row)
    debt.gone = kept


def keep_key(plan, scene, bits):
    """Forgets where the item with the handed key lay, if that can not matter any more."""
    if scene.key in (None, GONE, NOWHERE):
        return
    debt = scene.debt
    there = scene.key in list(scene.rows.values()) or scene.hand == scene.key
    if debt is None:
        there = there and plan.lives.key_tests[scene.number]
    else:
        there = there or scene.key in debt.count or scene.key in list(debt.was.values())
        there = there or bits.get(scene.key, 0) != 0
    if not there:
        scene.key = GONE


def spots_to_keep(plan, scene, bits):
    """The spots that still matter, a dict."""
    kept = {row: True for row in bits if bits[row] != 0}
    kept.update({row: True for row in scene.rows})
    kept.update({spot: True for spot in scene.homes.values()})
    kept[scene.front] = True
    if has_known_homes(plan, scene):
        kept[0] = True
        if scene.last is not None:
            kept[scene.last] = True
    if plan.lives.number_tests[scene.number]:
        kept[SEAM] = True
    debt = scene.debt
    if debt is not None:
        kept.update({row: True for row in list(debt.was) + debt.gone})
        kept.update({pair[0]: True for pair in list(debt.left.values()) + list(debt.right.values())})
        kept.update({spot: True for spot in (debt.behind, debt.ahead) if spot is not None})
        if debt.beside is not None:
            kept[debt.beside[0]] = True
    return kept


def forget(plan, scene, bits):
    """Forgets what can not matter any more."""
    debt = scene.debt
    scene.rows = {row: scene.rows[row] for row in scene.rows
                  if bits.get(row, 0) & READ != 0 or (debt is not None and row in debt.was)}
    if debt is not None:
        settle_items(plan, scene)
        keep_gone(plan, debt)
        keep_beside(plan, scene, bits)
    keep_homes(plan, scene, bits)
    keep_key(plan, scene, bits)
    scene.steps = min(scene.steps, plan.lives.counts[scene.number])
    if scene.last_head != scene.number:
        scene.last_head = 0
    if not plan.lives.number_tests[scene.number]:
        scene.open_seam = False
    drop_spots(scene, plan, spots_to_keep(plan, scene, bits), has_known_homes(plan, scene))


def tidy(plan, scene):
    """The scenes that come of a scene when what can not matter any more is forgotten."""
    bits = plan.lives.bits[scene.number]
    for name in REGISTERS:
        if bits[name] == 0:
            scene.registers[name] = None
    if bits["hand"] == 0:
        scene.hand = None
    by_row = bits_by_row(plan, scene)
    scenes = [scene] if scene.debt is None else settle_rows(plan, scene, by_row)
    scenes = [other for other in scenes if not other.doomed or plan.seeks_lawful]
    for other in scenes:
        forget(plan, other, by_row)
    return scenes


def item_label(plan, scene, item, places, number):
    """A label for an item of a scene, which tells what is known of it."""
    home = places.get(scene.home_of(item), -1)
    if scene.debt is None:
        # Of items that only are asked for it does not matter which is which.
        has_key = plan.lives.key_tests[scene.number] and item in (HANDED, scene.key)
        return has_key, home
    kind = 1 if item == HANDED else 2 if item == scene.key else 3 if plan.kind == "take" and item == 0 else 0
    return kind, home, scene.debt.count.get(item, 0), number


def item_labels(plan, scene, places):
    """The labels of all items that are there."""
    found = {}
    there = [scene.rows[spot] for spot in scene.order if spot in scene.rows]
    for held in there + [scene.hand]:
        if is_item(held) and held not in found:
            found[held] = item_label(plan, scene, held, places, len(found))
    return found


def held_label(held, labels):
    """A label for what a row holds."""
    if held is None:
        return EMPTY
    return labels[held] if is_item(held) else STONES


def start_label(plan, scene, held, labels):
    """A label for what a row held at the start."""
    if not is_item(held) or held in labels:
        return held_label(held, labels)
    if plan.kind == "set" and held == scene.key:
        return KEYED
    return LOST if plan.kind == "find" or is_owed(plan, scene, held) else FREE


def names_by_row(scene):
    """The registers that hold rows, a dict from rows to tuples of names."""
    found = {}
    for name in REGISTERS:
        row = scene.registers[name]
        if row is not None:
            found[row] = found.get(row, ()) + (name,)
    return found


def spot_label(plan, scene, spot, names, labels, places):
    """A label for a spot."""
    if spot == SEAM:
        return SEAM
    names = names.get(spot, ())
    held = held_label(scene.rows[spot], labels) if spot in scene.rows else NOTHING
    if scene.debt is None:
        return names, held, spot == 0
    debt = scene.debt
    start = start_label(plan, scene, debt.was[spot], labels) if spot in debt.was else NOTHING
    beside = (pair_label(debt.left.get(spot), places), pair_label(debt.right.get(spot), places))
    return names, held, spot == 0, start, spot in debt.wanted, beside


def pair_label(pair, places):
    """A label for what is known of an item beside."""
    return None if pair is None else (places[pair[0]], pair[1])


def key_label(scene, places):
    """A label for what is known of the item with the handed key."""
    if scene.key in (None, GONE, NOWHERE):
        return scene.key
    return GONE if scene.debt is None else places.get(scene.key, -1)


def debt_label(scene, places):
    """A label for a debt."""
    debt = scene.debt
    if debt is None:
        return None
    bounds = tuple([places.get(spot, -1) for spot in [debt.behind, debt.ahead] + debt.gone])
    counts = (debt.count.get(HANDED, 0), debt.count.get(scene.key, 0))
    return bounds, counts, pair_label(debt.beside, places), debt.is_short, debt.is_moved, debt.is_filled


def key_of(plan, scene):
    """A key that two scenes have alike only if the same can come of both."""
    places = {spot: at for at, spot in enumerate(scene.order)}
    labels = item_labels(plan, scene, places)
    names = names_by_row(scene)
    spots = tuple([spot_label(plan, scene, spot, names, labels, places) for spot in scene.order])
    hand = NOTHING if scene.hand is None else labels[scene.hand]
    return (scene.number, scene.steps, scene.last_head, scene.closed, scene.open_seam, scene.doomed,
            places.get(scene.last, -1), key_label(scene, places), hand, spots, tuple(scene.room),
            debt_label(scene, places))
