"""Programs by chance whose kinds fit: each term is made for a kind that is wanted."""

NUMBER, TRUTH = ("number",), ("truth",)
NAMES = ("x", "y", "z", "f", "w")


def any_kind(chance, depth, has_fns=True):
    forms = ["number", "number", "truth"]
    if depth > 1:
        forms += ["list", "list"] + ["fn"] * has_fns
    form = chance.choice(forms)
    many = {"list": 1, "fn": 2}.get(form, 0)
    return (form,) + tuple(any_kind(chance, depth - 1, has_fns) for part in range(many))


class Filler:
    """signatures: from names of functions to a tuple of their parameters' kinds and the kind that they tell."""

    def __init__(self, chance, signatures):
        self.chance = chance
        self.signatures = signatures

    def term(self, kind, depth, bound):
        """A term of this kind, in which the names of bound, a dict to kinds, may stand."""
        names = [name for name in bound if bound[name] == kind]
        if names and self.chance.random() < 0.35:
            return ("name", self.chance.choice(names))
        if depth <= 1:
            return self.least(kind, bound)
        ways = [self.own_form, self.own_form, self.own_form, self.an_if, self.a_let, self.a_do, self.a_head, self.a_call]
        return self.chance.choice(ways)(kind, depth - 1, bound)

    def least(self, kind, bound):
        if kind == NUMBER:
            return ("number", self.chance.choice((0, 1, 1, 2, 3, 7, 999999999999)))
        if kind == TRUTH:
            return ("truth", self.chance.random() < 0.5)
        if kind[0] == "list":
            return ("none",)
        name = self.chance.choice(NAMES)
        return ("fn", name, self.term(kind[2], 1, {**bound, name: kind[1]}))

    def own_form(self, kind, depth, bound):
        if kind == NUMBER:
            return ("two", self.chance.choice("+-*/"), self.term(NUMBER, depth, bound), self.term(NUMBER, depth, bound))
        if kind == TRUTH:
            way = self.chance.randrange(4)
            if way == 0:
                return ("one", "not", self.term(TRUTH, depth, bound))
            if way == 1:
                return ("one", "empty", self.term(("list", any_kind(self.chance, 2)), depth, bound))
            sign = self.chance.choice("<=")
            return ("two", sign, self.term(NUMBER, depth, bound), self.term(NUMBER, depth, bound))
        if kind[0] == "list":
            if self.chance.random() < 0.2:
                return ("one", "tail", self.term(kind, depth, bound))
            return ("two", ":", self.term(kind[1], depth, bound), self.term(kind, depth, bound))
        name = self.chance.choice(NAMES)
        return ("fn", name, self.term(kind[2], depth, {**bound, name: kind[1]}))

    def an_if(self, kind, depth, bound):
        return ("if", self.term(TRUTH, depth, bound), self.term(kind, depth, bound), self.term(kind, depth, bound))

    def a_let(self, kind, depth, bound):
        name, meant = self.chance.choice(NAMES), any_kind(self.chance, 3)
        return ("let", name, self.term(meant, depth, bound), self.term(kind, depth, {**bound, name: meant}))

    def a_do(self, kind, depth, bound):
        taken = any_kind(self.chance, 2)
        return ("do", self.term(("fn", taken, kind), depth, bound), self.term(taken, depth, bound))

    def a_head(self, kind, depth, bound):
        return ("one", "head", self.term(("list", kind), depth, bound))

    def a_call(self, kind, depth, bound):
        names = [name for name in self.signatures if self.signatures[name][1] == kind]
        if not names:
            return self.own_form(kind, depth, bound)
        name = self.chance.choice(names)
        return ("call", name, tuple(self.term(one, depth, bound) for one in self.signatures[name][0]))


def any_kinded_program(chance, depth):
    names = ["main"] + chance.sample(["f", "g", "h", "x", "y"], chance.randint(0, 4))
    chance.shuffle(names)
    signatures = {}
    for name in names:
        is_main = name == "main"
        taken = tuple(NUMBER if is_main else any_kind(chance, 3) for one in range(chance.randint(0, 4)))
        signatures[name] = (taken, any_kind(chance, 3, not is_main))
    filler = Filler(chance, signatures)
    program = []
    for name in names:
        taken, told = signatures[name]
        parameters = tuple(chance.sample(NAMES, len(taken)))
        program.append(("def", name, parameters, filler.term(told, depth, dict(zip(parameters, taken)))))
    return tuple(program)
