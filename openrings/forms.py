"""The forms of the lines of a code, and where a play goes on behind each line."""

from openrings.errors import BadLine

# A capital letter in a form is an open place for one of these words.
PLACES = {
    "S": ("at", "hole", "low", "top"),
    "R": ("at", "hole", "low", "top", "out"),
    "H": ("hole", "low", "top", "out"),
    "V": ("at", "hole", "low", "top", "first", "none"),
    "N": ("at", "hole", "low", "top", "out", "first", "none"),
    "X": ("at", "hole", "low", "top", "first", "home", "hand"),
    "Q": ("empty", "stone", "item", "key"),
    "C": ("<", "<="),
}
MOST_STEPS = 60
WRITES = (
    ("copy", "S gets S"),
    ("lay", "S gets hand"),
    ("lift", "hand gets S"),
    ("swap", "swap hand S"),
    ("empty", "empty S"),
    ("stone", "stone S"),
)
OUTER_LINES = (("set", "R = V"), ("next", "R = next S"), ("quit", "quit"))
LOOP_LINES = (("go", "go"), ("keep", "keep H"), ("stop", "stop"), ("quit", "quit"))
PARTS = (
    ("row", "S is Q"),
    ("same", "N is N"),
    ("numbers", "X C X"),
    ("distances", "from X C from X"),
    ("steps", "steps < K"),
)


class Line:
    """One line of a code, with the numbers of the lines that a play comes to behind it.

    `words` are the words in the open places of the form, `test` the parts of a test, triples
    (wanted, question, words). `loop` is the number of the loop around the line, or 0. `opener` is
    the number of the line that an else or an end belongs to; `turn` and `ending` are those of the
    else (or 0) and the end of an if or a loop. A play goes on at `then`; at `other` behind a test
    that does not hold. The number behind the last line stands for the end of the play.
    """

    def __init__(self, form, words, test):
        self.form = form
        self.words = words
        self.test = test
        self.loop = 0
        self.opener = 0
        self.turn = 0
        self.ending = 0
        self.then = 0
        self.other = 0


def is_count(word):
    """Whether a word is a number of steps that a test may name."""
    # A longer word is not read: Python refuses to read very long numbers.
    if not word.isdigit() or word.startswith("0") or len(word) > 2:
        return False
    return int(word) <= MOST_STEPS


def fits(mark, word):
    """Whether a word fits a word of a form."""
    if mark == "K":
        return is_count(word)
    if mark in PLACES:
        return word in PLACES[mark]
    return word == mark


def filled(form, words):
    """The words in the open places of a form, or None if the words do not have it."""
    marks = form.split(" ")
    if len(marks) != len(words):
        return None
    pairs = list(zip(marks, words))
    if not all([fits(mark, word) for mark, word in pairs]):
        return None
    return tuple([word for mark, word in pairs if mark == "K" or mark in PLACES])


def first_filled(forms, words):
    """The name and the words of the first of the forms that the words have, or None."""
    for name, form in forms:
        found = filled(form, words)
        if found is not None:
            return name, found
    return None


def read_part(words):
    """A part of a test, (wanted, question, words), or None if it has no form of a part."""
    wanted = words[:1] != ["not"]
    found = first_filled(PARTS, words if wanted else words[1:])
    if found is None:
        return None
    question, named = found
    if question in ("same", "numbers", "distances") and named[0] == named[-1]:
        return None
    return wanted, question, named


def read_test(words):
    """The parts of a test, or None if one of them has no form of a part."""
    parts = [[]]
    for word in words:
        if word == "and":
            parts.append([])
        else:
            parts[-1].append(word)
    test = tuple([read_part(part) for part in parts])
    return None if None in test else test


def read_line(text, in_loop):
    """A line that is no else and no end, or None if it has no form for its place."""
    words = text.split(" ")
    if words[0] == "if" or (words[0] == "walk" and not in_loop):
        test = read_test(words[1:])
        return None if test is None else Line(words[0], (), test)
    found = first_filled(WRITES + (LOOP_LINES if in_loop else OUTER_LINES), words)
    return None if found is None else Line(found[0], found[1], ())


def read_turn(word, number, lines, opened):
    """An else or an end, or None if there is nothing that it can turn or close."""
    if len(opened) == 0:
        return None
    opener = lines[opened[-1] - 1]
    if word == "end":
        opener.ending = number
    elif opener.form == "if" and opener.turn == 0:
        opener.turn = number
    else:
        return None
    line = Line(word, (), ())
    line.opener = opened[-1]
    return line


def loop_around(lines, opened):
    """The number of the loop that is open, or 0."""
    for number in opened:
        if lines[number - 1].form == "walk":
            return number
    return 0


def read_lines(texts):
    """The lines with these texts; raises BadLine for the first that is none."""
    lines = []
    opened = []
    for number, text in enumerate(texts, start=1):
        loop = loop_around(lines, opened)
        if text in ("else", "end"):
            line = read_turn(text, number, lines, opened)
        else:
            line = read_line(text, loop != 0)
        if line is None:
            raise BadLine(number)
        line.loop = loop
        lines.append(line)
        if line.form == "end":
            opened.pop()
        elif line.form in ("if", "walk"):
            opened.append(number)
    if len(opened) > 0:
        raise BadLine(len(texts) + 1)
    return lines


def landing(lines, number):
    """The line that a play plays that comes to a number, where else and end are not played."""
    while number <= len(lines) and lines[number - 1].form in ("else", "end"):
        opener = lines[lines[number - 1].opener - 1]
        if opener.form == "walk":
            return lines[number - 1].opener
        number = opener.ending + 1
    return number


def link(lines, number):
    """Tells a line where a play goes on behind it."""
    line = lines[number - 1]
    line.then = landing(lines, number + 1)
    if line.form == "quit":
        line.then = len(lines) + 1
    elif line.form == "stop":
        line.then = landing(lines, lines[line.loop - 1].ending + 1)
    elif line.form == "walk":
        line.other = landing(lines, line.ending + 1)
    elif line.form == "if":
        line.other = landing(lines, line.ending if line.turn == 0 else line.turn + 1)


def read_program(texts):
    """The linked lines of a code with these texts, a tuple; raises BadLine."""
    lines = read_lines(texts)
    for number in range(1, len(lines) + 1):
        link(lines, number)
    return tuple(lines)
