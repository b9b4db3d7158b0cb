"""Names placed once more, by bindings with numbers of their own; and programs whose names are bound."""

from helpers import ONE_WORDS, SIGNS
from speakmill.trees import parts_of


class Refused(Exception):
    pass


class Binder:
    """Each binding of a program gets a number of its own, in the place of its name."""

    def __init__(self):
        self.many = 0

    def binding(self):
        self.many += 1
        return self.many

    def resolved(self, term, meant):
        form = term[0]
        if form == "name":
            if term[1] not in meant:
                raise Refused
            return ("name", meant[term[1]])
        if form == "let":
            own = self.binding()
            return ("let", own, self.resolved(term[2], meant), self.resolved(term[3], {**meant, term[1]: own}))
        if form == "fn":
            own = self.binding()
            return ("fn", own, self.resolved(term[2], {**meant, term[1]: own}))
        if form == "call":
            return ("call", term[1], tuple(self.resolved(part, meant) for part in term[2]))
        parts = parts_of(term)
        return term[:len(term) - len(parts)] + tuple(self.resolved(part, meant) for part in parts)


def every_term(term):
    found = [term]
    for part in found:
        found.extend(parts_of(part))
    return found


def from_outside(term):
    terms = every_term(term)
    own = {one[1] for one in terms if one[0] in ("let", "fn")}
    return {one[1] for one in terms if one[0] == "name"} - own


class Frame:
    def __init__(self):
        self.slots = set()

    def place(self, term, holding, program):
        """holding: from bindings to slots, of those of this frame that hold here."""
        form = term[0]
        self.slots.update(holding.values())
        if form == "name":
            return ("slot", holding[term[1]])
        if form == "let":
            a = self.place(term[2], holding, program)
            return ("let", len(holding), a, self.place(term[3], {**holding, term[1]: len(holding)}, program))
        if form == "fn":
            taken = sorted(from_outside(term), key=holding.get)
            frame = Frame()
            begins = {binding: slot for slot, binding in enumerate(taken + [term[1]])}
            a = frame.place(term[2], begins, program)
            return ("fn", tuple(holding[binding] for binding in taken), frame.size(), a)
        if form == "call":
            numbers = [k for k, function in enumerate(program) if function[1] == term[1]]
            if not numbers or len(program[numbers[0]][2]) != len(term[2]):
                raise Refused
            return ("call", numbers[0], tuple(self.place(part, holding, program) for part in term[2]))
        parts = parts_of(term)
        return term[:len(term) - len(parts)] + tuple(self.place(part, holding, program) for part in parts)

    def size(self):
        return max(self.slots, default=-1) + 1


def placed_by_bindings(program):
    """The placed program, or None where it is refused."""
    names = [function[1] for function in program]
    if len(set(names)) < len(names) or "main" not in names:
        return None
    if any(len(set(function[2])) < len(function[2]) for function in program):
        return None
    try:
        return ([placed_function(function, program) for function in program], names.index("main"))
    except Refused:
        return None


def placed_function(function, program):
    binder = Binder()
    meant = {name: binder.binding() for name in function[2]}
    term = binder.resolved(function[3], meant)
    frame = Frame()
    a = frame.place(term, {binding: slot for slot, binding in enumerate(meant.values())}, program)
    return (len(function[2]), frame.size(), a)


NAMES = ("x", "y", "z", "f", "main")


def any_bound_term(chance, depth, names, counts):
    """A term of at most this depth, in which only these names are free; counts: of the functions' parameters."""
    if depth == 1 or chance.random() < 0.05:
        leaves = [("number", chance.randint(0, 9)), ("truth", chance.random() < 0.5), ("none",)]
        return chance.choice([("name", name) for name in names] * 3 or leaves) if chance.random() < 0.8 \
            else chance.choice(leaves)
    form = chance.choice(("two", "one", "if", "let", "let", "let", "fn", "fn", "fn", "do", "call"))

    def part(more=()):
        return any_bound_term(chance, depth - 1, names + tuple(more), counts)

    name = chance.choice(NAMES)
    if form == "two":
        return ("two", chance.choice(SIGNS), part(), part())
    if form == "one":
        return ("one", chance.choice(ONE_WORDS), part())
    if form == "if":
        return ("if", part(), part(), part())
    if form == "let":
        return ("let", name, part(), part((name,)))
    if form == "fn":
        return ("fn", name, part((name,)))
    if form == "do":
        return ("do", part(), part())
    called = chance.choice(sorted(counts))
    return ("call", called, tuple(part() for many in range(counts[called])))


def any_bound_program(chance, depth):
    names = ["main"] + chance.sample(["f", "g", "h", "x"], chance.randint(0, 4))
    chance.shuffle(names)
    counts = {name: chance.randint(0, 4) for name in names}
    program = []
    for name in names:
        parameters = tuple(chance.sample(NAMES, counts[name]))
        program.append(("def", name, parameters, any_bound_term(chance, depth, parameters, counts)))
    return tuple(program)
