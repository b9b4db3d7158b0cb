"""Rows by chance, what they do when values are not known, and what there is in them that shortened ones have not."""

from evaluating import Over, SIGNS, calculated

BACK = ("back",)


def push(n):
    return ("push", n)


def skip(n):
    return ("skip", n)


def unless(n):
    return ("unless", n)


def goal_of(rows, number):
    return number + 1 + rows[number][1] if rows[number][0] in ("skip", "unless") else None


def reached_by_steps(rows):
    """The numbers of the rows that are reached, by taking all steps until there is none left."""
    found, waiting = set(), [0]
    while waiting:
        number = waiting.pop()
        if number not in found:
            found.add(number)
            if goal_of(rows, number) is not None:
                waiting.append(goal_of(rows, number))
            if rows[number][0] not in ("skip", "back"):
                waiting.append(number + 1)
    return found


def led_to(rows):
    return {goal_of(rows, number) for number in reached_by_steps(rows)} - {None}


def is_number_push(row):
    return row[0] == "push" and type(row[1]) is int


def is_folded_ahead(a, b, row):
    if not (is_number_push(a) and is_number_push(b) and row[0] in SIGNS):
        return False
    try:
        calculated(SIGNS[row[0]], a[1], b[1])
    except Over:
        return False
    return True


def thread_faults(rows):
    """What threaded rows have not: pairs of a word and a row's number."""
    found = [("unreached", number) for number in range(len(rows)) if number not in reached_by_steps(rows)]
    for number, row in enumerate(rows):
        if row == ("skip", 0):
            found.append(("nought", number))
        on = rows[goal_of(rows, number)][0] if row[0] in ("skip", "unless") else None
        if (row[0], on) in (("skip", "skip"), ("skip", "back"), ("unless", "skip")):
            found.append((row[0] + " to " + on, number))
    return found


def fold_faults(rows):
    """What folded rows have not: pairs of a word and a row's number."""
    found, led = [], led_to(rows)
    for number in range(len(rows) - 1):
        row, behind = rows[number:number + 2]
        if number + 1 in led:
            continue
        if number + 2 < len(rows) and number + 2 not in led and is_folded_ahead(row, behind, rows[number + 2]):
            found.append(("numbers", number))
        if row[0] == "push" and type(row[1]) is bool and behind[0] in ("not", "unless"):
            found.append(("truth", number))
        if row[0] == "keep" and behind == ("load", row[1]) and rows.count(behind) == 1:
            found.append(("keep", number))
    return found


def faults(rows):
    return thread_faults(rows) + fold_faults(rows)


def way_through(rows, finds):
    """The rows that are done but for skips, jumps without how far they go, and how many there are with the skips.

    finds: what one unless after the other finds; the last of them go on.
    """
    done, at, many, asked = [], 0, 0, 0
    while True:
        row = rows[at]
        many += 1
        at += 1
        if row[0] == "skip":
            at += row[1]
        elif row[0] == "unless":
            done.append("unless")
            if asked < len(finds) and not finds[asked]:
                at += row[1]
            asked += 1
        else:
            done.append(row)
        if row == BACK:
            return repr(done), many


class Tracer:
    """Does rows over values that are not known: tuples that say how they came about.

    What can be refused, makes a cell or calls is noted in trace; what is below the stack, and in slots in which nothing
    was kept, is not known either. finds: what one unless after the other finds where the value is not known.
    """

    def __init__(self, rows, finds):
        self.rows, self.finds = rows, list(finds)
        self.stack, self.slots, self.trace = [], {}, []
        self.below, self.many = 0, 0

    def taken(self):
        if self.stack:
            return self.stack.pop()
        self.below += 1
        return ("below", self.below)

    def taken_in_order(self, many):
        return tuple(self.taken() for value in range(many))[::-1]

    def noted(self, what):
        self.trace.append(what)
        self.stack.append(what)

    def found(self):
        value = self.taken()
        if type(value) is bool:
            return value
        self.trace.append(("asked", value))
        return self.finds.pop() if self.finds else True

    def two(self, word):
        b, a = self.taken(), self.taken()
        if type(a) is int and type(b) is int:
            self.stack.append(calculated(SIGNS[word], a, b))
        elif word in ("less", "same"):
            self.stack.append((word, a, b))
        else:
            self.noted((word, a, b))

    def do(self, row):
        """How many rows are skipped."""
        word = row[0]
        if word == "skip" or word == "unless" and not self.found():
            return row[1]
        if word in SIGNS:
            self.two(word)
        elif word == "push":
            self.stack.append(row[1])
        elif word == "load":
            self.stack.append(self.slots.get(row[1], ("slot", row[1])))
        elif word == "keep":
            self.slots[row[1]] = self.taken()
        elif word == "not":
            value = self.taken()
            self.stack.append(not value if type(value) is bool else ("not", value))
        elif word == "none":
            self.stack.append(("none",))
        elif word == "empty":
            self.stack.append(("empty", self.taken()))
        elif word != "unless":
            many = {"cons": 2, "head": 1, "tail": 1, "apply": 2}.get(word)
            self.noted(row + self.taken_in_order(row[2] if many is None else many))
        return 0

    def traced(self):
        at = 0
        try:
            while self.rows[at] != BACK:
                self.many += 1
                at += 1 + self.do(self.rows[at])
            told = self.taken()
        except Over as over:
            told = over.args[0]
        return repr((told, self.trace)), self.many + 1


def traced(rows, finds):
    """What rows do, as a text, and how many are done for it."""
    return Tracer(rows, finds).traced()


NUMBERS = (0, 1, 2, -7, 10 ** 40, -10 ** 40, 10 ** 20, 10 ** 41)


def any_row(chance):
    word = chance.choice(("push",) * 6 + ("truth",) * 2 + ("load", "keep", "pair") * 2 + (
        "add", "sub", "mul", "div", "less", "same", "not", "none", "cons", "head", "tail", "empty", "call", "close",
        "apply", "back"))
    if word == "push":
        return ("push", chance.choice(NUMBERS))
    if word == "truth":
        return ("push", chance.random() < 0.5)
    if word in ("load", "keep"):
        return (word, chance.randrange(3))
    if word in ("call", "close"):
        return (word, chance.randrange(3), chance.randrange(3))
    return (word,)


def any_rows(chance, most):
    """Rows by chance, of which some can be folded, and whose jumps go on at any later ones."""
    rows, many = [], chance.randrange(most + 1)
    while len(rows) < many:
        row = any_row(chance)
        if row == ("pair",):
            slot = chance.randrange(6)
            rows += [("keep", slot), ("load", slot)]
        elif row[0] in SIGNS and chance.random() < 0.7:
            rows += [("push", chance.choice(NUMBERS)), ("push", chance.choice(NUMBERS)), row]
        elif row == ("not",) and chance.random() < 0.7:
            rows += [("push", True), row]
        elif chance.random() < 0.3:
            if chance.random() < 0.5:
                rows += [("push", chance.random() < 0.5)]
            rows += [(chance.choice(("skip", "unless")), chance.choice((0, 0, 1, 2, 3, 8)))]
        else:
            rows.append(row)
    # Jumps that would go beyond the last row go on there.
    rows = [(row[0], min(row[1], len(rows) - 1 - at)) if row[0] in ("skip", "unless") else row
            for at, row in enumerate(rows)]
    return tuple(rows) + (BACK,)
