"""All cases with few rows, larger rings, and codes with slips, for the tests of what holds for rings of every size."""

import functools
import itertools

from openrings.codes import Code
from openrings.errors import BadLine, Refused, TooMany
from openrings.play import play
from openrings.rings import is_lawful, placed

PROMISES = ("inside", "ends", "lawful", "items", "out", "steady")
MOST_ROWS = 3


@functools.lru_cache(None)
def lawful_rings(way, many):
    """All lawful rings of so many rows, but for the keys and marks of the items."""
    held = [None, *range(many)] + (["stone"] if way == "stones" else [])
    rings = []
    for rows in itertools.product(held, repeat=many):
        if None in rows:
            ring = tuple((11 + at, row, at) if isinstance(row, int) else row for at, row in enumerate(rows))
            if is_lawful(ring, way):
                rings.append(ring)
    return rings


def handed_to(kind, ring):
    """All that can be handed, but for keys that are not in the ring, and hashes with the same home."""
    many = len(ring)
    if kind == "take":
        return [row for row in range(many) if isinstance(ring[row], tuple)]
    pairs = [(5, home) for home in range(many)]
    if kind != "put":
        pairs += [item[:2] for item in ring if isinstance(item, tuple)]
    if kind in ("find", "drop"):
        return pairs
    return [(*pair, mark) for pair in pairs for mark in (0, 99)]


@functools.lru_cache(None)
def small_cases(kind, way, most=MOST_ROWS):
    """All cases with few rows, the smaller ones first."""
    return [(ring, handed) for many in range(1, most + 1) for ring in lawful_rings(way, many)
            if kind not in ("put", "set") or ring.count(None) >= 2 for handed in handed_to(kind, ring)]


def small_plays(code, most=MOST_ROWS):
    """The cases with few rows and their plays."""
    return [(case, play(code, *case)) for case in small_cases(code.kind, code.way, most)]


def numbers(seed):
    """Numbers without end that look as if they came by chance."""
    while True:
        seed = (seed * 6364136223846793005 + 1442695040888963407) % 2 ** 64
        yield seed >> 33


def filled(items, many, way):
    """A ring with items, each one put at the first free row from its home on but for the way sorted."""
    if way == "sorted":
        return list(placed(items, many, way))
    ring = [None] * many
    for item in items:
        row = item[1] % many
        while ring[row] is not None:
            row = (row + 1) % many
        ring[row] = item
    return ring


@functools.lru_cache(None)
def larger_rings(way, two_empty):
    """Rings of up to 40 rows with long runs, over the seam too."""
    rings = []
    source = numbers(7)
    for many in (4, 5, 6, 7, 9, 12, 17, 25, 40):
        for empty in (1, 2, max(many // 4, 2)):
            items = [(20 + at, (next(source) % many) if at % 3 else many - 1, at) for at in range(many - empty)]
            ring = filled(items, many, way)
            if way == "stones":
                for row in range(0, many, 4):
                    if isinstance(ring[row], tuple):
                        ring[row] = "stone"
            if ring.count(None) >= 2 or not two_empty:
                rings.append(tuple(ring))
    return rings


def larger_cases(kind, way):
    """Cases with larger rings."""
    cases = []
    for ring in larger_rings(way, kind in ("put", "set")):
        every = handed_to(kind, ring)
        cases += [(ring, handed) for handed in every[::max(len(every) // 12, 1)]]
    return cases


def as_code(kind, way, text):
    """A code, or None if the text is none."""
    try:
        return Code(kind, way, text)
    except (BadLine, Refused, TooMany):
        return None


def changed_lines(line):
    """A line with one slip, in all ways."""
    if " <= " in line:
        yield line.replace(" <= ", " < ")
    elif " < " in line:
        yield line.replace(" < ", " <= ")
    if "from " in line:
        yield line.replace("from ", "")
    word, _, test = line.partition(" ")
    if word in ("if", "walk"):
        parts = test.split(" and ")
        for at, part in enumerate(parts):
            other = part[4:] if part.startswith("not ") else "not " + part
            yield word + " " + " and ".join(parts[:at] + [other] + parts[at + 1:])
            if len(parts) > 1:
                yield word + " " + " and ".join(parts[:at] + parts[at + 1:])
        yield line + " and steps < 2"
    if line == "stop":
        yield "quit"
    if line.startswith("empty"):
        yield line.replace("empty", "stone")
    if line.startswith("stone"):
        yield line.replace("stone", "empty")
    if "hole" in line:
        yield line.replace("hole", "at")


def slips(kind, way, text):
    """The codes that come of a text by one slip: a line that is left out, told twice or changed."""
    lines = text.split("\n")
    texts = []
    for at, line in enumerate(lines):
        for others in ([], [line, line], *[[other] for other in changed_lines(line)]):
            texts.append("\n".join(lines[:at] + others + lines[at + 1:]))
    codes = [as_code(kind, way, other) for other in dict.fromkeys(texts)]
    return [code for code in codes if code is not None]
