"""Plans: what a search over the plays of a code looks at."""

from openrings.lives import Lives

# The numbers of unknown rows that are taken to be enough; the later ones are tried if need be.
ROOMS = (0, 1, 2, 4, 8, 16, 32, 64, 128)
MOVES = ("copy", "lay", "lift", "swap")
CHANGES = ("copy", "lay", "lift", "swap", "empty", "stone")


class Plan:
    """What a search looks at.

    `room` is the number of unknown rows between two spots from which on they are taken to be
    enough for all that may come. `is_owing` tells whether what is left at the end is looked at,
    `is_watched` whether what is at the heads of loops is, `is_free` that rows ahead of the one
    where plays begin do not count. `has_homes` tells whether homes of items matter at all,
    `owes_homes` whether they do for what is left at the end, `can_empty` whether rows can be
    emptied, `seeks_lawful` whether plays that leave no lawful ring are looked for.
    """

    def __init__(self, code, room, is_owing, is_watched, is_free):
        self.code = code
        self.kind = code.kind
        self.way = code.way
        self.program = code.program
        self.room = room
        self.is_owing = is_owing
        self.is_watched = is_watched
        self.is_free = is_free
        self.lives = Lives(code, is_watched)
        forms = [line.form for line in code.program]
        has_moves = any([form in MOVES for form in forms])
        has_changes = any([form in CHANGES for form in forms])
        self.can_empty = "empty" in forms or "copy" in forms
        self.owes_homes = is_owing and has_changes and (has_moves or code.way == "sorted" or self.lives.home_tests[1])
        self.has_homes = self.lives.home_tests[1] or self.owes_homes
        # Whether an item may lie ahead of its home in a lawful ring: the walk from its home leads round
        # the whole ring, so all rows from the last emptied one up to the end of the run are full, with
        # one item more than before if not with stones.
        self.may_turn = has_moves and code.kind in ("find", "take", "drop") and code.way == "stones"
        self.seeks_lawful = is_owing and has_changes
