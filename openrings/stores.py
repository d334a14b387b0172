"""Stores: rings that are kept by codes."""

from openrings.codes import Code
from openrings.errors import BadName, BadSize, NoDeed, NothingToUndo
from openrings.play import DONE, play
from openrings.rings import all_items, check_way, is_whole


def stays(done):
    """Whether a play is done and leaves a lawful ring."""
    return done.ended == DONE and "lawful" not in done.broken


class Store:
    """A ring that is kept by codes of one way; `past` are the rings that can come back."""

    def __init__(self, way, many, codes):
        check_way(way)
        if not is_whole(many) or many < 1:
            raise BadSize(many)
        for name, code in codes.items():
            if not isinstance(name, str) or not isinstance(code, Code) or code.way != way:
                raise BadName(name)
        self.way = way
        self.codes = dict(codes)
        self.ring = (None,) * many
        self.past = []

    def __len__(self):
        return len(all_items(self.ring))

    def is_deed(self, name):
        """Whether any value is the name of a deed."""
        return isinstance(name, str) and name in self.codes

    def keep(self, ring):
        """Lets a ring stay."""
        self.past.append(self.ring)
        self.ring = ring

    def do(self, name, handed):
        """Plays a deed; the ring that is left stays if the play is done and the ring lawful."""
        if not self.is_deed(name):
            raise NoDeed(name)
        done = play(self.codes[name], self.ring, handed)
        if stays(done):
            self.keep(done.left)
        return done

    def grow(self, name):
        """Puts all items into a ring of twice as many rows; whether this stays."""
        if not self.is_deed(name) or self.codes[name].kind != "put":
            raise NoDeed(name)
        ring = (None,) * (2 * len(self.ring))
        for item in all_items(self.ring):
            done = play(self.codes[name], ring, item)
            if not stays(done):
                return False
            ring = done.left
        self.keep(ring)
        return True

    def undo(self):
        """Takes back the last deed or growing that stayed and is not taken back yet."""
        if len(self.past) == 0:
            raise NothingToUndo()
        self.ring = self.past.pop()

    def undoable(self):
        """How many deeds and growings can be taken back."""
        return len(self.past)

    def present(self):
        """The ring as it is."""
        return self.ring
