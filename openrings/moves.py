"""How the lines of a code lead from scenes to scenes."""

from openrings.lives import HOME, any_home
from openrings.play import BEYOND, ENDLESS
from openrings.rings import STONE
from openrings.scenes import HANDED, SEAM, distance_rank, is_item, number_rank, with_home

# What asking a test can come to beside True and False.
UNKNOWN = "unknown"


def has_known_homes(plan, scene):
    """Whether the homes of items are looked at."""
    if scene.debt is not None and plan.owes_homes:
        return True
    return plan.has_homes and plan.lives.home_tests[scene.number]


def may_hold(plan, scene):
    """What the next row may hold."""
    if plan.kind == "take" and scene.front < 0:
        return ["item"]
    found = ["empty", "item"]
    if plan.way == "stones":
        found.append("stone")
    if plan.kind in ("find", "set", "drop") and scene.key is None:
        # In the way sorted no item lies ahead of one whose home is before its own.
        if scene.last is None or not scene.is_before(0, scene.last):
            if scene.debt is not None or plan.lives.key_tests[scene.number]:
                found.append("key")
    return found


def met_row(scene, what):
    """Lets the next row of a scene hold something."""
    scene.front += 1
    row = scene.front
    scene.order.append(row)
    scene.room.append(0)
    scene.note(("row", what))
    scene.closed = what == "empty"
    if what == "key":
        scene.key = row
        scene.homes[row] = 0
    held = row
    if what in ("empty", "stone"):
        held = None if what == "empty" else STONE
    scene.rows[row] = held
    if scene.debt is not None:
        scene.debt.meet(row, held)


def met_homes(plan, scene):
    """The scenes in which the home of the item in the front row is known, in the way sorted."""
    row = scene.front
    found = [scene] if row == scene.key else with_home(scene, plan, row, scene.last, row)
    for other in found:
        other.last = other.homes[row]
    return found


def meet(plan, scene):
    """The scenes in which the next row is met."""
    starts = [scene]
    if scene.open_seam:
        other = scene.clone()
        other.open_seam = False
        other.note(("seam", scene.front if scene.front >= 0 else None, scene.front + 1))
        other.order.append(SEAM)
        other.room.append(0)
        starts.append(other)
    found = []
    for start in starts:
        for what in may_hold(plan, start):
            other = start.clone()
            met_row(other, what)
            if plan.way == "sorted" and is_item(other.rows[other.front]) and has_known_homes(plan, other):
                found.extend(met_homes(plan, other))
            else:
                found.append(other)
    return found


def step(plan, scene, line):
    """`R = next S`, and go."""
    name, source = line.words if line.form == "next" else ("at", "at")
    row = scene.registers[source]
    if row is None:
        return BEYOND
    if row == scene.front and scene.closed:
        return ENDLESS
    found = meet(plan, scene) if row == scene.front else [scene]
    for other in found:
        other.registers[name] = row + 1
        other.number = line.then
        if name == "at" and source == "at":
            other.steps = min(other.steps + 1, plan.lives.counts[line.then])
            other.last_head = 0
    return found


def wants_home(plan, scene, item, line):
    """Whether the home of an item has to be known before a line moves it from a row."""
    if not plan.has_homes or scene.home_of(item) is not None:
        return False
    if scene.debt is not None:
        return scene.debt.count.get(item, 0) == 0
    lives = plan.lives
    if line.form == "copy":
        return any_home(lives.bits[line.then], lives.ahead[line.then]) != 0
    return lives.bits[line.then]["hand"] & HOME != 0


def move(plan, scene, line):
    """`S gets T`, `S gets hand`, `hand gets S`, `swap hand S`."""
    row = scene.registers[line.words[0]]
    source = scene.registers[line.words[-1]]
    if row is None or source is None:
        return BEYOND
    if line.form in ("lay", "swap") and scene.hand is None:
        return BEYOND
    if line.form == "copy" and row == source:
        scene.number = line.then
        return [scene]
    held = scene.hand if line.form == "lay" else scene.rows[source]
    if line.form in ("lift", "swap") and not is_item(held):
        return BEYOND
    if line.form != "lay" and is_item(held) and wants_home(plan, scene, held, line):
        return with_home(scene, plan, held, None, held)
    if line.form == "swap":
        scene.rows[row] = scene.hand
    elif line.form != "lift":
        scene.rows[row] = held
    if line.form in ("lift", "swap"):
        scene.hand = held
    scene.number = line.then
    return [scene]


def do_line(plan, scene, line):
    """Plays a line without a test: the scenes behind it, or how the play ends.

    Where the home of an item has to be known first, the scenes are those ahead of the line again.
    """
    if line.form in ("go", "next"):
        return step(plan, scene, line)
    if line.form in ("copy", "lay", "lift", "swap"):
        return move(plan, scene, line)
    if line.form in ("empty", "stone"):
        row = scene.registers[line.words[0]]
        if row is None:
            return BEYOND
        scene.rows[row] = None if line.form == "empty" else STONE
    elif line.form == "set":
        scene.registers[line.words[0]] = scene.row_of(line.words[1])
    elif line.form == "keep":
        scene.registers[line.words[0]] = scene.registers["at"]
    scene.number = line.then
    return [scene]


def item_named(scene, name):
    """The item whose home a test names, or None if there is none."""
    if name == "hand":
        return scene.hand
    row = scene.registers["at"]
    held = None if row is None else scene.rows[row]
    return held if is_item(held) else None


def spot_named(scene, name):
    """The spot that a comparison names, None if there is none, or UNKNOWN."""
    if name not in ("home", "hand"):
        return scene.row_of(name)
    item = item_named(scene, name)
    if item is None:
        return None
    home = scene.home_of(item)
    return UNKNOWN if home is None else home


def compare(scene, question, words):
    """Whether a comparison holds; None if the play is beyond by it, or UNKNOWN."""
    one = spot_named(scene, words[0])
    other = spot_named(scene, words[2])
    if one is None or other is None:
        return None
    if question == "distances" and scene.registers["at"] is None:
        return None
    if one == UNKNOWN or other == UNKNOWN:
        return UNKNOWN
    if question == "numbers":
        first, second = number_rank(scene, one), number_rank(scene, other)
    else:
        first, second = distance_rank(scene, one), distance_rank(scene, other)
    return first < second if words[1] == "<" else first <= second


def row_holds(scene, name, what):
    """Whether the row of a register holds what a test asks for; None if the register is none."""
    row = scene.registers[name]
    if row is None:
        return None
    held = scene.rows[row]
    if what == "empty":
        return held is None
    if what == "stone":
        return held == STONE
    if what == "item":
        return is_item(held)
    return is_item(held) and (held == HANDED or held == scene.key)


def ask(scene, question, words):
    """Whether a part of a test holds, without its not; None if the play is beyond, or UNKNOWN."""
    if question == "row":
        return row_holds(scene, words[0], words[1])
    if question == "same":
        return scene.row_of(words[0]) == scene.row_of(words[1])
    if question == "steps":
        return scene.steps < int(words[0])
    return compare(scene, question, words)


def holds(scene, test):
    """Whether a test holds; None if the play is beyond by it, UNKNOWN if a home is not known yet."""
    for wanted, question, words in test:
        answer = ask(scene, question, words)
        if answer is None or answer == UNKNOWN:
            return answer
        if answer != wanted:
            return False
    return True
