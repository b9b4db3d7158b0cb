"""The machine once more, over objects of Python's: what leads to what is told by the objects themselves."""

from evaluating import Over, SIGNS, calculated


class Kept:
    """A pair, or an fn of a block; parts are its head and tail, or its values."""

    def __init__(self, block, parts):
        self.block = block
        self.parts = parts


class Mill:
    """Frames are lists of a block's number, a row's number, a list of slots and a list for the stack.

    kept has all objects that are not gone; those of a real machine have the same order, numbered by it.
    """

    def __init__(self, blocks, main, numbers, most):
        self.blocks, self.most = blocks, most
        self.frames, self.kept = [self.frame(main, numbers)], []
        self.outcome, self.rows, self.calls = None, 0, 0

    def frame(self, number, values):
        return [number, 0, list(values) + [None] * (self.blocks[number][1] - len(values)), []]

    def step(self):
        if self.outcome:
            return False
        self.rows += 1
        try:
            self.do(*self.blocks[self.frames[-1][0]][2][self.frames[-1][1]])
        except Over as over:
            self.outcome, self.frames = over.args[0], []
        return True

    def do(self, word, *more):
        frame = self.frames[-1]
        frame[1] += 1
        slots, stack = frame[2:]
        if word in ("push", "none", "load"):
            stack.append({"push": more, "none": [None], "load": slots[more[0]:] if word == "load" else ()}[word][0])
        elif word == "keep":
            slots[more[0]] = stack.pop()
        elif word == "skip" or word == "unless" and stack.pop() is False:
            frame[1] += more[0]
        elif word in SIGNS:
            b, a = stack.pop(), stack.pop()
            stack.append(calculated(SIGNS[word], a, b))
        elif word == "cons":
            tail, head = stack.pop(), stack.pop()
            stack.append(self.new(None, [head, tail]))
        elif word in ("head", "tail"):
            pair = stack.pop()
            if pair is None:
                raise Over(("refused", word))
            stack.append(pair.parts[word == "tail"])
        elif word in ("empty", "not"):
            stack.append(stack.pop() in (None, False))
        elif word == "close":
            stack.append(self.new(more[0], self.taken(stack, more[1])))
        elif word == "call":
            self.enter(more[0], self.taken(stack, more[1]))
        elif word == "apply":
            value, fn = stack.pop(), stack.pop()
            self.enter(fn.block, fn.parts + [value])
        elif word == "back":
            self.frames.pop()
            if not self.frames:
                raise Over(("value", stack.pop()))
            self.frames[-1][3].append(stack.pop())

    def taken(self, stack, many):
        return [stack.pop() for value in range(many)][::-1]

    def new(self, block, parts):
        self.kept.append(Kept(block, parts))
        return self.kept[-1]

    def enter(self, number, values):
        if self.calls == self.most:
            raise Over(("dry",))
        self.calls += 1
        if len(self.frames) == 60:
            raise Over(("deep",))
        self.frames.append(self.frame(number, values))

    def hung_on(self):
        values = [value for frame in self.frames for some in frame[2:] for value in some]
        return values + ([self.outcome[1]] if self.outcome and self.outcome[0] == "value" else [])

    def led_to(self):
        """All objects to which something leads, each once."""
        found, waiting = {}, self.hung_on()
        while waiting:
            one = waiting.pop()
            if isinstance(one, Kept) and id(one) not in found:
                found[id(one)] = one
                waiting.extend(one.parts)
        return list(found.values())

    def plain(self, value):
        found = []
        if not isinstance(value, Kept):
            return found if value is None else value
        while value is not None:
            found.append(self.plain(value.parts[0]))
            value = value.parts[1]
        return found

    def answer(self):
        if self.outcome and self.outcome[0] == "value":
            return ("value", self.plain(self.outcome[1]))
        return self.outcome

    def told(self):
        """Frames and cells as the real machine tells them."""
        numbers = {id(one): number for number, one in enumerate(self.kept)}

        def all_told(values):
            return tuple(("cell", numbers[id(one)]) if isinstance(one, Kept) else one for one in values)

        frames = [(block, at, all_told(slots), all_told(stack)) for block, at, slots, stack in self.frames]
        cells = [("pair",) + all_told(one.parts) if one.block is None else ("fn", one.block, all_told(one.parts))
                 for one in self.kept]
        return frames, cells

    def collect(self):
        """How many are gone."""
        many = len(self.kept)
        self.kept = self.led_to()
        return many - len(self.kept)

    def order_as(self, frames, cells):
        """Takes over the numbers that the real machine has for what is kept: those are free."""
        numbers = {}
        own = [value for frame in self.frames for some in frame[2:] for value in some]
        waiting = list(zip(own, [value for frame in frames for some in frame[2:] for value in some]))
        while waiting:
            one, told = waiting.pop()
            if isinstance(one, Kept) and id(one) not in numbers:
                numbers[id(one)] = told[1]
                cell = cells[told[1]]
                waiting.extend(zip(one.parts, cell[1:] if one.block is None else cell[2]))
        self.kept.sort(key=lambda one: numbers[id(one)])
