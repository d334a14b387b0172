"""Codes that are made as if by chance, the same ones each time."""

from openrings.codes import Code
from openrings.errors import BadLine, Refused, TooMany
from tests.samples import KINDS, WAYS
from tests.small import numbers


class Maker:
    """Makes the lines of a code; most of them ask first, so that plays come far."""

    def __init__(self, kind, way, source):
        self.kind = kind
        self.way = way
        self.source = source
        self.registers = self.some(("hole", "low", "top"), (1, 2, 2, 3))
        self.has_hand = kind in ("put", "set")

    def one(self, values):
        return values[next(self.source) % len(values)]

    def some(self, values, counts):
        found = list(values)
        while len(found) > self.one(counts):
            found.remove(self.one(found))
        return found

    def often(self, percent):
        return next(self.source) % 100 < percent

    def row(self):
        return self.one(["at", "at", *self.registers])

    def part(self):
        no = "not " if self.often(35) else ""
        if self.often(35):
            words = ["empty", "item", *["stone"] * 2 * (self.way == "stones"), *["key"] * 3 * (self.kind != "take")]
            return f"{no}{self.row()} is {self.one(words)}"
        names = ["at", *self.registers, *["first"] * (self.kind != "take")]
        if self.often(25):
            one = self.one(names)
            return f"{no}{one} is {self.one([name for name in [*names, 'none'] if name != one])}"
        if self.often(15):
            return f"{no}steps < {1 + next(self.source) % 5}"
        names += ["hand"] * 2 * self.has_hand
        words = ["home", self.one(names)]
        if self.often(50):
            words.reverse()
        before = "from " if self.often(70) else ""
        return f"at is item and {no}{before}{words[0]} {self.one(['<', '<='])} {before}{words[1]}"

    def write(self):
        row = self.row()
        if self.has_hand and self.often(50):
            return self.one([[f"{row} gets hand"], [f"if {row} is item", f"swap hand {row}", "end"],
                             [f"if {row} is item", f"hand gets {row}", "end"]])
        if self.often(50):
            return [f"{row} gets {self.row()}"]
        return [f"stone {row}" if self.way == "stones" and self.often(50) else f"empty {row}"]

    def block(self, depth, make):
        """Lines, some of them by a function, with ifs around others."""
        lines = []
        for _ in range(self.one([0, 1, 1, 2, 3] if depth == 0 else [0, 1, 1])):
            if depth < 2 and self.often(35):
                lines += ["if " + self.part(), *self.block(depth + 1, make)]
                if self.often(35):
                    lines += ["else", *self.block(depth + 1, make)]
                lines.append("end")
            else:
                lines += make()
        return lines

    def loop_line(self):
        if self.often(55):
            return [f"keep {self.one([*self.registers, *['out'] * (self.kind == 'find')])}"]
        return [self.one(["stop", "quit"])] if self.often(15) else self.write()

    def early_line(self):
        if self.often(50):
            return [f"{self.one(self.registers)} = {self.one(['at', 'none', *self.registers])}"]
        return self.write()

    def late_line(self):
        if self.often(25):
            return [f"{self.row()} = {self.row()}"]
        if self.often(40):
            row = self.row()
            step = f"{self.row()} = next {row}"
            return [step] if self.often(30) else [f"if not {row} is empty", step, "end"]
        return self.write()

    def code(self):
        lines = [] if self.kind == "take" else ["at = first"]
        lines += [f"{name} = at" for name in self.registers if self.often(85)]
        for at in range(self.one([0, 0, 1, 1, 1, 2])):
            if self.often(30):
                lines += self.block(0, self.early_line)
            if (at > 0 or self.kind == "take") and self.often(35):
                lines.append("at = next at")
            lines.append("walk not at is empty" + (" and " + self.part() if self.often(40) else ""))
            lines += [*self.block(0, self.loop_line), "go", "end"]
        lines += self.block(0, self.late_line)
        if self.kind == "find" and self.often(50):
            lines.append(f"out = {self.row()}")
        return Code(self.kind, self.way, "\n".join(lines))


def made_codes(seed, many):
    """So many codes of all kinds and ways."""
    source = numbers(seed)
    found = []
    while len(found) < many:
        kind, way = KINDS[next(source) % 5], WAYS[next(source) % 3]
        try:
            found.append(Maker(kind, way, source).code())
        except (BadLine, Refused, TooMany):
            pass
    return found
