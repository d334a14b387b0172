"""What may still be asked of each register and of the hand from a line of a code on."""

# What may still be asked of a register: its row number; what the row holds; the home of the item in
# the row; and whether the row is written, gets what another one or the hand holds, or others get
# what it holds.
ROW = 1
READ = 2
HOME = 4
WRITE = 8
FILL = 16
TAKE = 32
REGISTERS = ("at", "hole", "low", "top", "out")
NAMES = ("at", "hole", "low", "top", "out", "first", "hand")
TESTS = ("if", "walk")


class Lives:
    """For each number of a line, and the one behind the last line, what may be asked from there on.

    `bits` has a dict from names to sums of the numbers above; for the hand ROW stands for whether
    it holds an item. `ahead` has a dict from names to lists of such sums, for the rows behind that
    of a register, one after the other. `home_tests`, `key_tests` and `number_tests` tell whether a
    test of a home, of a key, of numbers of rows may follow, `fills` whether a row may get what
    another one or the hand holds; `counts` has the greatest number of steps that may be asked for.
    """

    def __init__(self, code, watched):
        many = len(code) + 2
        self.watched = watched
        self.bits = [{name: 0 for name in NAMES} for _ in range(many)]
        self.ahead = [{name: [] for name in NAMES} for _ in range(many)]
        self.home_tests = [False] * many
        self.key_tests = [False] * many
        self.number_tests = [False] * many
        self.fills = [False] * many
        self.counts = [0] * many
        if code.kind == "find":
            self.bits[many - 1]["out"] = ROW
        changed = True
        while changed:
            changed = False
            for number in range(len(code), 0, -1):
                if self.look_back(code.program[number - 1], number):
                    changed = True

    def look_back(self, line, number):
        """Works out a line from those behind it; whether anything has changed."""
        if line.form in ("else", "end"):
            return False
        before = self.told(number)
        self.bits[number] = dict(self.bits[line.then])
        self.ahead[number] = dict(self.ahead[line.then])
        self.take_facts(number, line.then)
        if line.form in TESTS:
            self.take_facts(number, line.other)
            for name in NAMES:
                self.bits[number][name] |= self.bits[line.other][name]
                self.ahead[number][name] = either(self.ahead[number][name], self.ahead[line.other][name])
            if line.form == "walk" and self.watched:
                self.bits[number]["at"] |= ROW | READ | HOME
                self.home_tests[number] = True
            for _, question, words in line.test:
                self.ask_part(number, question, words)
        else:
            ask_line(self.bits[number], self.ahead[number], line.form, line.words)
            self.note_fill(number, line)
        return before != self.told(number)

    def told(self, number):
        """All that is known of a line."""
        return (dict(self.bits[number]), dict(self.ahead[number]), self.home_tests[number], self.key_tests[number],
                self.number_tests[number], self.fills[number], self.counts[number])

    def note_fill(self, number, line):
        """Notes whether a row gets what another one or the hand holds."""
        if line.form in ("lay", "swap") or (line.form == "copy" and line.words[0] != line.words[1]):
            self.fills[number] = True

    def take_facts(self, number, behind):
        """What may be asked from a line behind may be asked from this one on."""
        self.home_tests[number] = self.home_tests[number] or self.home_tests[behind]
        self.key_tests[number] = self.key_tests[number] or self.key_tests[behind]
        self.number_tests[number] = self.number_tests[number] or self.number_tests[behind]
        self.fills[number] = self.fills[number] or self.fills[behind]
        self.counts[number] = max(self.counts[number], self.counts[behind])

    def ask_part(self, number, question, words):
        """Notes what a part of a test asks."""
        bits = self.bits[number]
        if question == "steps":
            self.counts[number] = max(self.counts[number], int(words[0]))
        elif question == "row":
            bits[words[0]] |= ROW | READ
            self.key_tests[number] = self.key_tests[number] or words[1] == "key"
        elif question == "same":
            ask_rows(bits, words)
        else:
            ask_rows(bits, (words[0], words[2]))
            if "home" in words or "hand" in words:
                self.home_tests[number] = True
            if question == "numbers":
                self.number_tests[number] = True
            else:
                bits["at"] |= ROW


def either(some, others):
    """What is asked of rows by one list or the other."""
    longer, shorter = (some, others) if len(some) >= len(others) else (others, some)
    return [bits | (shorter[at] if at < len(shorter) else 0) for at, bits in enumerate(longer)]


def ask_rows(bits, words):
    """Notes that the rows that words name are compared."""
    for word in words:
        if word == "home":
            bits["at"] |= ROW | READ | HOME
        elif word == "hand":
            bits["hand"] |= ROW | HOME
        elif word != "none":
            bits[word] |= ROW


def any_home(bits, ahead):
    """HOME if the home of an item in some row may be asked, otherwise 0."""
    # Several registers may name the same row.
    for name in REGISTERS + ("first",):
        if bits[name] & HOME != 0 or any([more & HOME != 0 for more in ahead[name]]):
            return HOME
    return 0


def ask_setting(bits, ahead, name, source):
    """Notes what a line asks that lets a register get the row of another one."""
    passed = bits[name]
    passed_ahead = ahead[name]
    bits[name] = 0
    ahead[name] = []
    if source != "none":
        bits[source] |= passed
        ahead[source] = either(ahead[source], passed_ahead)


def ask_next(bits, ahead, name, source):
    """Notes what a line asks that lets a register get the row behind that of another one."""
    passed = [bits[name]] + ahead[name]
    bits[name] = 0
    ahead[name] = []
    bits[source] |= ROW
    ahead[source] = either(ahead[source], passed)


def ask_line(bits, ahead, form, words):
    """Notes what a line without a test asks; the bits are those behind it."""
    if form == "set":
        ask_setting(bits, ahead, words[0], words[1])
    elif form == "keep":
        ask_setting(bits, ahead, words[0], "at")
    elif form == "next":
        ask_next(bits, ahead, words[0], words[1])
    elif form == "go":
        # No row behind the row at is known in a loop.
        bits["at"] = ROW
        ahead["at"] = []
    elif form == "copy":
        # A row that gets what it holds itself is not changed.
        if words[0] == words[1]:
            bits[words[0]] |= ROW
            return
        home = any_home(bits, ahead)
        bits[words[0]] |= ROW | WRITE | FILL
        bits[words[1]] |= ROW | READ | TAKE | home
    elif form in ("empty", "stone"):
        bits[words[0]] |= ROW | WRITE
    elif form in ("lay", "lift", "swap"):
        ask_hand(bits, ahead, form, words[0])


def ask_hand(bits, ahead, form, name):
    """Notes what a line asks by which an item comes from the hand or to it."""
    lifted = bits["hand"] & HOME
    laid = any_home(bits, ahead)
    if form != "lay":
        bits["hand"] = 0
        bits[name] |= ROW | READ | TAKE | lifted
    if form != "lift":
        bits["hand"] |= ROW | laid
        bits[name] |= ROW | WRITE | FILL
