"""Rings of rows with items, and the ways in which they are kept."""

from openrings.errors import BadRing, BadWay

WAYS = ("plain", "stones", "sorted")
STONE = "stone"


def is_whole(value):
    """Whether a value is an integer; True and False are none."""
    return isinstance(value, int) and not isinstance(value, bool)


def is_pair(value):
    """Whether any value is a pair (key, hash)."""
    if not isinstance(value, tuple) or len(value) != 2:
        return False
    return is_whole(value[0]) and is_whole(value[1]) and value[1] >= 0


def is_item(value):
    """Whether any value is an item, a triple (key, hash, mark)."""
    if not isinstance(value, tuple) or len(value) != 3:
        return False
    return is_pair(value[:2]) and is_whole(value[2])


def is_row(value):
    """Whether any value is a row: empty, a stone or an item."""
    # A value of another kind might not be comparable with a string.
    return value is None or (isinstance(value, str) and value == STONE) or is_item(value)


def keys_differ(items):
    """Whether no two of the items have the same key."""
    keys = [item[0] for item in items]
    return len(set(keys)) == len(keys)


def items_of(rows):
    """The items in rows, which may be no ring, by rows."""
    return [row for row in rows if isinstance(row, tuple)]


def is_ring(value):
    """Whether any value is a ring, lawful or not."""
    if not isinstance(value, tuple) or not all([is_row(row) for row in value]):
        return False
    return any([row is None for row in value]) and keys_differ(items_of(value))


def is_way(value):
    """Whether any value is a way of keeping a table."""
    return isinstance(value, str) and value in WAYS


def check_ring(ring):
    """Raises BadRing for a value that is no ring."""
    if not is_ring(ring):
        raise BadRing(ring)


def check_way(way):
    """Raises BadWay for a value that is no way."""
    if not is_way(way):
        raise BadWay(way)


def home(item, many):
    """The home of an item in a ring of so many rows."""
    return item[1] % many


def distance(one, other, many):
    """How many steps lead from a row to another one."""
    return (other - one) % many


def gap(rows, row):
    """How many steps lead from the home of the item in a row to this row."""
    return distance(home(rows[row], len(rows)), row, len(rows))


def runs(ring):
    """The runs of a ring, pairs (first row, number of rows), by first rows."""
    check_ring(ring)
    found = []
    for first in range(len(ring)):
        # For the row 0 the index -1 is that of the last row, over the seam.
        if ring[first] is not None and ring[first - 1] is None:
            many = 1
            while ring[(first + many) % len(ring)] is not None:
                many += 1
            found.append((first, many))
    return found


def all_items(ring):
    """The items of a ring, by rows."""
    check_ring(ring)
    return tuple(items_of(ring))


def is_reached(ring):
    """Whether no item has an empty row on the walk from its home."""
    for first, many in runs(ring):
        for behind in range(many):
            row = (first + behind) % len(ring)
            # The walk stays in the run if it is no longer than the run up to here.
            if isinstance(ring[row], tuple) and gap(ring, row) > behind:
                return False
    return True


def is_in_order(ring):
    """Whether homes never fall back from an item to the one in the next row."""
    for row in range(len(ring)):
        after = (row + 1) % len(ring)
        if isinstance(ring[row], tuple) and isinstance(ring[after], tuple):
            if gap(ring, after) > gap(ring, row) + 1:
                return False
    return True


def is_lawful(ring, way):
    """Whether a ring is lawful in a way."""
    check_ring(ring)
    check_way(way)
    if way == "stones":
        return is_reached(ring)
    if STONE in ring or not is_reached(ring):
        return False
    return way == "plain" or is_in_order(ring)


def settle(rows, item):
    """Puts an item into rows without stones, so that homes never fall back."""
    many = len(rows)
    row = home(item, many)
    while rows[row] is not None:
        if gap(rows, row) < distance(home(item, many), row, many):
            item, rows[row] = rows[row], item
        row = (row + 1) % many
    rows[row] = item


def are_items(value):
    """Whether any value is a list of items with unlike keys."""
    if not isinstance(value, (list, tuple)):
        return False
    return all([is_item(item) for item in value]) and keys_differ(value)


def placed(items, many, way):
    """A ring with these items in so many rows that is lawful in a way."""
    if not are_items(items) or len(items) >= many:
        raise BadRing(items)
    check_way(way)
    rows = [None] * many
    # A ring that is lawful in the way sorted is so in each way.
    for item in items:
        settle(rows, item)
    return tuple(rows)
