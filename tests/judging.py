"""Kinds found once more, by calls, over the plainer ties of unifying.py."""

from unifying import PlainBonds, Refused

NUMBER, TRUTH = ("number",), ("truth",)
TAKEN = {"+": NUMBER, "-": NUMBER, "*": NUMBER, "/": NUMBER, "<": NUMBER, "=": NUMBER}
TOLD = {"+": NUMBER, "-": NUMBER, "*": NUMBER, "/": NUMBER, "<": TRUTH, "=": TRUTH}


class Judge:
    def __init__(self, functions):
        self.bonds = PlainBonds()
        self.opened = 0
        self.taken = [[self.open() for one in range(count)] for count, size, body in functions]
        self.told = [self.open() for function in functions]

    def open(self):
        self.opened += 1
        return ("open", self.opened)

    def judged(self, term, slots):
        """The kinds of the term and of all its parts, its own first. slots: from slots to kinds."""
        form = term[0]
        if form == "number":
            return [NUMBER]
        if form == "truth":
            return [TRUTH]
        if form == "none":
            return [("list", self.open())]
        if form == "slot":
            return [slots[term[1]]]
        if form == "let":
            meant = self.judged(term[2], slots)
            inner = self.judged(term[3], {**slots, term[1]: meant[0]})
            return [inner[0]] + meant + inner
        if form == "fn":
            name = self.open()
            frame = {at: slots[slot] for at, slot in enumerate(term[1])}
            inner = self.judged(term[3], {**frame, len(term[1]): name})
            return [("fn", name, inner[0])] + inner
        parts = term[2] if form == "call" else term[1:] if form in ("if", "do") else term[2:]
        judged = [self.judged(part, slots) for part in parts]
        told = self.told_kind(term, [kinds[0] for kinds in judged])
        return [told] + [kind for kinds in judged for kind in kinds]

    def told_kind(self, term, kinds):
        tie = self.bonds.tie
        form = term[0]
        if form == "call":
            for one, other in zip(kinds, self.taken[term[1]], strict=True):
                tie(one, other)
            return self.told[term[1]]
        if form == "if":
            tie(kinds[0], TRUTH)
            tie(kinds[1], kinds[2])
            return kinds[1]
        if form == "do":
            told = self.open()
            tie(("fn", kinds[1], told), kinds[0])
            return told
        if term[1] == ":":
            tie(("list", kinds[0]), kinds[1])
            return kinds[1]
        if form == "two":
            tie(kinds[0], TAKEN[term[1]])
            tie(kinds[1], TAKEN[term[1]])
            return TOLD[term[1]]
        if term[1] == "not":
            tie(kinds[0], TRUTH)
            return TRUTH
        item = self.open()
        tie(("list", item), kinds[0])
        return {"head": item, "tail": ("list", item), "empty": TRUTH}[term[1]]


def kinds_by_calls(placed):
    """The kinds of a placed program, or None where it is refused."""
    functions, main = placed
    judge = Judge(functions)
    try:
        for kind in judge.taken[main]:
            judge.bonds.tie(kind, NUMBER)
        found = []
        for number, (count, size, body) in enumerate(functions):
            found.append(judge.judged(body, dict(enumerate(judge.taken[number]))))
            judge.bonds.tie(found[-1][0], judge.told[number])
    except Refused:
        return None
    final = judge.bonds.final
    kinds = [(tuple(final(kind) for kind in judge.taken[number]), final(judge.told[number]),
              [final(kind) for kind in found[number]]) for number in range(len(functions))]
    if "fn" in str(kinds[main][1]) or "None" in str(kinds):
        return None
    return kinds
