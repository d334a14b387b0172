"""Codes, and the limits that their lines keep."""

from openrings.errors import BadKind, BadWay, Refused, TooMany
from openrings.forms import WRITES, read_program
from openrings.rings import is_way

KINDS = ("find", "put", "set", "take", "drop")
MOST_LINES = 60
MOST_IFS = 7
MOST_LOOPS = 2
MOST_NEXTS = 12
MOST_WRITES = 12
STEP = ("at", "at")
START = ("at", "first")


def is_kind(value):
    """Whether any value is a kind of deed."""
    return isinstance(value, str) and value in KINDS


def lines_of(text):
    """The lines of a text; a text without signs has none."""
    return text.split("\n") if text != "" else []


def barred_words(kind, way):
    """The words that no line may have in codes of a kind and a way."""
    barred = []
    if way != "stones":
        barred.append("stone")
    if kind == "take":
        barred.extend(["first", "key"])
    return barred


def barred_lines(kind, way, texts):
    """The numbers of the lines with a word that is not for the kind or the way."""
    barred = barred_words(kind, way)
    found = []
    for number, text in enumerate(texts, start=1):
        words = text.split(" ")
        if any([word in words for word in barred]):
            found.append(number)
    return found


def all_ways(program):
    """The ways through the lines outside loops, each a list of the numbers of its lines."""
    ways = []
    waiting = [([], 1)]
    while len(waiting) > 0:
        way, number = waiting.pop()
        if number > len(program):
            ways.append(way)
            continue
        line = program[number - 1]
        if line.form != "walk":
            waiting.append((way + [number], line.then))
        if line.form in ("if", "walk"):
            waiting.append((way + [number], line.other))
    return ways


def behind_go(program, head):
    """The numbers of the lines of a loop that stand behind a go on a way through its lines."""
    seen = set()
    late = []
    waiting = [(program[head - 1].then, False)]
    while len(waiting) > 0:
        number, gone = waiting.pop()
        # At its head the round is over.
        if number == head or (number, gone) in seen:
            continue
        seen.add((number, gone))
        line = program[number - 1]
        if gone:
            late.append(number)
        if line.form == "if":
            waiting.append((line.other, gone))
        if line.form not in ("stop", "quit"):
            waiting.append((line.then, gone or line.form == "go"))
    return late


class Walk:
    """One way through the lines outside loops; its lines are gone over one after the other.

    `refused` gets the numbers that are told of the lines that may not stand there.
    """

    def __init__(self, kind, program, way):
        self.kind = kind
        self.program = program
        self.loops = [number for number in way if program[number - 1].form == "walk"]
        self.passed = 0
        self.placed = False
        self.nexts = 0
        self.writes = 0
        self.settings = {}
        self.refused = []

    def is_behind_loops(self):
        """Whether no loop is ahead."""
        return self.passed == len(self.loops)

    def refuse_next_loop(self):
        """Tells the next loop for a line that may not stand ahead of a loop."""
        self.refused.append(self.loops[self.passed])

    def may_place(self, line):
        """Whether a line may set `at` ahead of the next loop, where that is done once."""
        if self.placed:
            return False
        if self.passed == 0 and self.kind != "take":
            return line.form == "set" and line.words == START
        # Between a second and a third loop nothing helps: the third one is refused itself.
        return line.form == "next" and line.words == STEP

    def may_step_from(self, name):
        """Whether a line behind the last loop may step from a register."""
        last = self.settings.get(name, "")
        if last == "next":
            return True
        if name != "at":
            return False
        return last == "" or (last == "first" and len(self.loops) == 0)

    def meet_loop(self, number):
        """Goes over a loop."""
        if self.passed == 0 and self.kind != "take" and not self.placed:
            self.refuse_next_loop()
        if self.passed >= MOST_LOOPS:
            self.refused.append(number)
        self.refused.extend(behind_go(self.program, number))
        self.passed += 1
        self.placed = False

    def meet_early_setting(self, number, line):
        """Goes over a line that sets a register ahead of a loop."""
        if self.may_place(line):
            self.placed = True
        elif line.form == "next":
            self.count_next(number)
            self.refuse_next_loop()
        elif line.words[0] == "at":
            self.refuse_next_loop()

    def meet_late_setting(self, number, line):
        """Goes over a line that sets a register behind the last loop."""
        name, source = line.words
        if line.form == "next":
            self.count_next(number)
            if not self.may_step_from(source):
                self.refused.append(number)
            source = "next"
        self.settings[name] = source

    def count_next(self, number):
        """Counts a next that is not the one that may stand ahead of a loop."""
        self.nexts += 1
        if self.nexts > MOST_NEXTS:
            self.refused.append(number)

    def count_write(self, number):
        """Counts a write."""
        self.writes += 1
        if self.writes > MOST_WRITES:
            self.refused.append(number)


def refused_on(kind, program, way):
    """The numbers that are told of the lines of a way that may not stand there."""
    walk = Walk(kind, program, way)
    write_forms = [name for name, _ in WRITES]
    for number in way:
        line = program[number - 1]
        if line.form == "walk":
            walk.meet_loop(number)
        elif line.form in write_forms:
            walk.count_write(number)
        elif line.form in ("set", "next"):
            if walk.is_behind_loops():
                walk.meet_late_setting(number, line)
            else:
                walk.meet_early_setting(number, line)
    return walk.refused


def refused_lines(kind, way, texts, program):
    """All the numbers that may be told of lines that break a limit."""
    found = barred_lines(kind, way, texts)
    for numbers in all_ways(program):
        found.extend(refused_on(kind, program, numbers))
    return found


def outer_ifs(program):
    """How many ifs stand outside loops."""
    return len([line for line in program if line.form == "if" and line.loop == 0])


class Code:
    """A code of a kind and a way; `program` are its linked lines."""

    def __init__(self, kind, way, text):
        if not is_kind(kind):
            raise BadKind(kind)
        if not is_way(way):
            raise BadWay(way)
        texts = lines_of(text)
        if len(texts) > MOST_LINES:
            raise TooMany("lines", len(texts), MOST_LINES)
        program = read_program(texts)
        ifs = outer_ifs(program)
        if ifs > MOST_IFS:
            raise TooMany("ifs", ifs, MOST_IFS)
        refused = refused_lines(kind, way, texts, program)
        if len(refused) > 0:
            raise Refused(min(refused))
        self.kind = kind
        self.way = way
        self.text = text
        self.texts = tuple(texts)
        self.program = program

    def __len__(self):
        return len(self.texts)

    def __getitem__(self, number):
        return self.texts[number - 1]

    def __iter__(self):
        raise TypeError("a code is not iterated over")

    def __eq__(self, other):
        return (isinstance(other, Code) and self.kind == other.kind
                and self.way == other.way and self.text == other.text)

    def in_way(self, way):
        """The code with the same text for another way."""
        return Code(self.kind, way, self.text)
