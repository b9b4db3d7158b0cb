"""Answers told once more: of a program by calls, and of blocks by doing their rows."""

GREATEST = 10 ** 40


class Over(Exception):
    """Carries the answer."""


def calculated(sign, a, b):
    if sign in "<=":
        return a < b if sign == "<" else a == b
    if sign == "/":
        if b == 0:
            raise Over(("refused", "nought"))
        return (a - a % b) // b
    told = {"+": a + b, "-": a - b, "*": a * b}[sign]
    if not -GREATEST <= told <= GREATEST:
        raise Over(("refused", "great"))
    return told


class Evaluator:
    """Lists are Python's own, and are not changed; an fn is a function of Python's."""

    def __init__(self, program, most):
        self.program = {function[1]: function for function in program}
        self.most = most
        self.calls = 0

    def count(self, deep):
        if self.calls == self.most:
            raise Over(("dry",))
        self.calls += 1
        if deep == 60:
            raise Over(("deep",))

    def body(self, name, values, deep):
        names, body = self.program[name][2:]
        return self.value(body, dict(zip(names, values)), deep)

    def value(self, term, bound, deep):
        form = term[0]

        def part(at):
            return self.value(term[at], bound, deep)

        if form in ("number", "truth"):
            return term[1]
        if form == "none":
            return []
        if form == "name":
            return bound[term[1]]
        if form == "two":
            a, b = part(2), part(3)
            return [a] + b if term[1] == ":" else calculated(term[1], a, b)
        if form == "one":
            return self.one(term[1], part(2))
        if form == "if":
            return part(2) if part(1) else part(3)
        if form == "let":
            return self.value(term[3], {**bound, term[1]: part(2)}, deep)
        if form == "fn":
            return lambda value, deep: self.value(term[2], {**bound, term[1]: value}, deep)
        if form == "do":
            fn, value = part(1), part(2)
            self.count(deep)
            return fn(value, deep + 1)
        values = [self.value(one, bound, deep) for one in term[2]]
        self.count(deep)
        return self.body(term[1], values, deep + 1)

    def one(self, word, value):
        if word == "not":
            return value is False
        if word == "empty":
            return value == []
        if value == []:
            raise Over(("refused", word))
        return value[0] if word == "head" else value[1:]


def evaluated(program, numbers, most):
    """The answer, and how many calls there were."""
    evaluator = Evaluator(program, most)
    try:
        return ("value", evaluator.body("main", numbers, 1)), evaluator.calls
    except Over as over:
        return over.args[0], evaluator.calls


SIGNS = {"add": "+", "sub": "-", "mul": "*", "div": "/", "less": "<", "same": "="}


class RowDoer:
    """Does the rows of blocks; lists are Python's own, an fn is a tuple of its block and its values."""

    def __init__(self, blocks, most):
        self.blocks = blocks
        self.evaluator = Evaluator((), most)

    def done(self, number, values, deep):
        count, size, rows = self.blocks[number]
        assert len(values) == count
        slots = list(values) + [None] * (size - count)
        stack = []
        at = 0
        while rows[at] != ("back",):
            at += 1 + self.row_done(rows[at], slots, stack, deep)
        assert len(stack) == 1
        return stack[0]

    def row_done(self, row, slots, stack, deep):
        """How many rows are skipped."""
        word = row[0]

        def taken(many):
            values = stack[len(stack) - many:]
            del stack[len(stack) - many:]
            assert len(values) == many
            return values

        if word == "push":
            stack.append(row[1])
        elif word == "none":
            stack.append([])
        elif word == "load":
            stack.append(slots[row[1]])
        elif word == "keep":
            slots[row[1]] = stack.pop()
        elif word == "skip":
            return row[1]
        elif word == "unless":
            return 0 if stack.pop() else row[1]
        elif word == "cons":
            head, tail = taken(2)
            stack.append([head] + tail)
        elif word in SIGNS:
            stack.append(calculated(SIGNS[word], *taken(2)))
        elif word == "call":
            values = taken(row[2])
            self.evaluator.count(deep)
            stack.append(self.done(row[1], values, deep + 1))
        elif word == "close":
            stack.append((row[1], taken(row[2])))
        elif word == "apply":
            fn, value = taken(2)
            self.evaluator.count(deep)
            stack.append(self.done(fn[0], fn[1] + [value], deep + 1))
        else:
            stack.append(self.evaluator.one(word, stack.pop()))
        return 0


def done_by_rows(blocks, main, numbers, most):
    """The answer, and how many calls there were."""
    doer = RowDoer(blocks, most)
    try:
        return ("value", doer.done(main, numbers, 1)), doer.evaluator.calls
    except Over as over:
        return over.args[0], doer.evaluator.calls
