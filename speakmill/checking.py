"""Finds the kinds of a placed program."""

from speakmill.binding import Bonds
from speakmill.errors import BadKind
from speakmill.kinds import kind_parts
from speakmill.scopes import placed_parts

NUMBER = ("number",)
TRUTH = ("truth",)
COMPARING = ("<", "=")


def kinded(placed):
    functions = placed[0]
    main = placed[1]
    checker = Checker([function[0] for function in functions])
    checker.tie_all([(kind, NUMBER) for kind in checker.taken_by(main)])
    # A later function may still say of what kind an earlier one is, so nothing is told until all are walked.
    found = [checker.walk_body(number, function[2]) for number, function in enumerate(functions)]
    told = [checker.kinds_told(number, kinds) for number, kinds in enumerate(found)]
    refuse_fn_in(told[main][1])
    return told


def refuse_fn_in(kind):
    waiting = [kind]
    while waiting:
        part = waiting.pop()
        if part[0] == "fn":
            raise BadKind("what main tells has an fn in it")
        waiting.extend(kind_parts(part))


# Frames are dicts from slots to kinds. Bodies are walked in the order in which they are reckoned: a let's slot gets its
# kind between its a and its b, so that each slot has at any time the kind of the binding that holds there.
class Checker:
    def __init__(self, counts):
        self.bonds = Bonds()
        self.signatures = [(self.fresh_ones(count), self.bonds.fresh()) for count in counts]

    def fresh_ones(self, many):
        return [self.bonds.fresh() for one in range(many)]

    def taken_by(self, number):
        return self.signatures[number][0]

    def told_by(self, number):
        return self.signatures[number][1]

    def tie_all(self, pairs):
        for one, other in pairs:
            self.bonds.tie(one, other)
            # Kinds only grow, and all of these are kinds of terms or parameters, or parts of such. Refused at the end
            # alone, a long one would be walked again at each tie until then.
            self.bonds.refuse_long(one)

    # Tells the kinds of all terms in the order of the walk; they may still be open.
    def walk_body(self, number, body):
        found = []
        frame = dict(enumerate(self.taken_by(number)))
        waiting = [("term", body, self.told_by(number), frame)]
        while waiting:
            step = waiting.pop()
            kind = step[2]
            held = step[3]
            if step[0] == "keep":
                held[step[1]] = kind
            else:
                found.append(kind)
                waiting.extend(list(reversed(self.steps_within(step[1], kind, held))))
        return found

    # Ties the kind of a term to those of its parts, and tells what is to be walked next.
    def steps_within(self, term, kind, frame):
        parts = placed_parts(term)
        kinds = self.fresh_ones(len(parts))
        own = self.bonds.fresh()
        self.tie_all(self.pairs_of(term, kind, kinds, own, frame))
        inner = frame_of_fn(term, own, frame) if term[0] == "fn" else frame
        steps = [("term", part, part_kind, inner) for part, part_kind in zip(parts, kinds)]
        if term[0] == "let":
            steps.insert(1, ("keep", term[1], kinds[0], frame))
        return steps

    def pairs_of(self, term, kind, kinds, own, frame):
        if term[0] == "slot":
            return [(kind, frame[term[1]])]
        if term[0] == "call":
            return [(kind, self.told_by(term[1]))] + list(zip(kinds, self.taken_by(term[1])))
        return pairs_by_form(term, kind, kinds, own)

    def kinds_told(self, number, found):
        parameters = tuple([self.bonds.final(kind) for kind in self.taken_by(number)])
        return (parameters, self.bonds.final(self.told_by(number)), [self.bonds.final(kind) for kind in found])


def frame_of_fn(term, own, frame):
    taken = term[1]
    inner = dict([(at, frame[slot]) for at, slot in enumerate(taken)])
    inner[len(taken)] = own
    return inner


# The pairs of kinds that have to be one. Besides the kinds of the term and of its parts there is one of its own,
# for the items of its list or for the name of its fn.
def pairs_by_form(term, kind, kinds, own):
    form = term[0]
    if form == "number":
        return [(kind, NUMBER)]
    if form == "truth":
        return [(kind, TRUTH)]
    if form == "none":
        return [(kind, ("list", own))]
    if form == "two":
        return pairs_of_two(term[1], kind, kinds)
    if form == "one":
        return pairs_of_one(term[1], kind, kinds[0], own)
    if form == "if":
        return [(kinds[0], TRUTH), (kinds[1], kind), (kinds[2], kind)]
    if form == "let":
        return [(kinds[1], kind)]
    if form == "fn":
        return [(kind, ("fn", own, kinds[0]))]
    return [(kinds[0], ("fn", kinds[1], kind))]


def pairs_of_two(sign, kind, kinds):
    if sign == ":":
        return [(kinds[1], ("list", kinds[0])), (kind, kinds[1])]
    told = TRUTH if sign in COMPARING else NUMBER
    return [(kinds[0], NUMBER), (kinds[1], NUMBER), (kind, told)]


def pairs_of_one(word, kind, part, own):
    if word == "head":
        return [(part, ("list", kind))]
    if word == "tail":
        return [(part, ("list", own)), (kind, part)]
    if word == "empty":
        return [(part, ("list", own)), (kind, TRUTH)]
    return [(part, TRUTH), (kind, TRUTH)]
