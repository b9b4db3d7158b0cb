"""Reads a text to a program."""

from speakmill.errors import BadText
from speakmill.trees import depth_of, size_of
from speakmill.words import is_name, is_number, words

MOST_FUNCTIONS = 12
MOST_LISTED = 4
DEEPEST = 16
MOST_TERMS = 400
MOST_BRACKETS = 16

STRENGTHS = {"<": 1, "=": 1, ":": 2, "+": 3, "-": 3, "*": 4, "/": 4}
LEAST_STRENGTH = 1
COMPARING = ("<", "=")
ONE_WORDS = ("head", "tail", "empty", "not")


def read(text):
    found = words(text)
    refuse_many_brackets(found)
    program = Reader(found).read_program()
    refuse_great(program)
    return program


def refuse_many_brackets(found):
    standing = 0
    for word in found:
        if word == "(":
            standing += 1
        if word == ")":
            standing -= 1
        if standing > MOST_BRACKETS:
            raise BadText(f"more than {MOST_BRACKETS} brackets within one another")


def refuse_great(program):
    size = 0
    for function in program:
        body = function[3]
        if depth_of(body) > DEEPEST:
            raise BadText(f"a body is more than {DEEPEST} deep")
        size += size_of(body)
    if size > MOST_TERMS:
        raise BadText(f"the bodies have more than {MOST_TERMS} terms")


# What stands to the right of a sign binds more than it; of a cons it may bind as much.
def strength_behind(sign):
    if sign == ":":
        return STRENGTHS[sign]
    return STRENGTHS[sign] + 1


# A level is how deep in its body a term stands at the least, the body itself being at 1.
class Reader:
    def __init__(self, found):
        self.found = found
        self.place = 0

    def ahead(self):
        if self.place < len(self.found):
            return self.found[self.place]
        return ""

    def take(self):
        word = self.ahead()
        self.place += 1
        return word

    def expect(self, wanted):
        word = self.take()
        if word != wanted:
            raise BadText(f"{wanted!r} should stand where {word!r} does")

    def read_program(self):
        functions = [self.read_function()]
        while self.ahead() != "":
            if len(functions) == MOST_FUNCTIONS:
                raise BadText(f"more than {MOST_FUNCTIONS} functions")
            functions.append(self.read_function())
        return tuple(functions)

    def read_function(self):
        self.expect("def")
        name = self.read_name()
        names = self.read_names()
        self.expect("=")
        return ("def", name, names, self.read_term(1))

    def read_name(self):
        word = self.take()
        if not is_name(word):
            raise BadText(f"a name should stand where {word!r} does")
        return word

    def read_names(self):
        self.expect("(")
        names = []
        while self.goes_on(len(names)):
            names.append(self.read_name())
        return tuple(names)

    def read_terms(self, level):
        self.expect("(")
        terms = []
        while self.goes_on(len(terms)):
            terms.append(self.read_term(level))
        return tuple(terms)

    # Takes what parts the listed ones, or ends them.
    def goes_on(self, many):
        if self.ahead() == ")":
            self.take()
            return False
        if many == MOST_LISTED:
            raise BadText(f"more than {MOST_LISTED} in one pair of brackets")
        if many > 0:
            self.expect(",")
        return True

    def read_term(self, level):
        return self.read_row(LEAST_STRENGTH, level)

    def read_row(self, least, level):
        term = self.read_operand(level)
        while STRENGTHS.get(self.ahead(), 0) >= least:
            sign = self.take()
            right = self.read_row(strength_behind(sign), level + 1)
            self.refuse_side_by_side(sign)
            term = ("two", sign, term, right)
        return term

    # No word that may stand behind a term is one of these two: a second one is wrong wherever it is seen,
    # also from within an fn, whose row must not hand it on to the row outside.
    def refuse_side_by_side(self, sign):
        if sign in COMPARING and self.ahead() in COMPARING:
            raise BadText("< and = stand side by side without brackets")

    def read_operand(self, level):
        # Refused here rather than when all is read, so that the calls of the reader don't get deep.
        if level > DEEPEST:
            raise BadText(f"a body is more than {DEEPEST} deep")
        if self.ahead() in ONE_WORDS:
            word = self.take()
            return ("one", word, self.read_operand(level + 1))
        term = self.read_tight_or_wide(level)
        while self.ahead() == "!":
            self.take()
            term = ("do", term, self.read_tight_or_wide(level + 1))
        return term

    def read_tight_or_wide(self, level):
        word = self.ahead()
        if word == "if":
            return self.read_if(level)
        if word == "let":
            return self.read_let(level)
        if word == "fn":
            return self.read_fn(level)
        return self.read_tight(level)

    def read_if(self, level):
        self.expect("if")
        asked = self.read_term(level + 1)
        self.expect("then")
        chosen = self.read_term(level + 1)
        self.expect("else")
        return ("if", asked, chosen, self.read_term(level + 1))

    def read_let(self, level):
        self.expect("let")
        name = self.read_name()
        self.expect("=")
        meant = self.read_term(level + 1)
        self.expect("in")
        return ("let", name, meant, self.read_term(level + 1))

    def read_fn(self, level):
        self.expect("fn")
        name = self.read_name()
        self.expect("=>")
        return ("fn", name, self.read_term(level + 1))

    def read_tight(self, level):
        word = self.take()
        if word == "(":
            term = self.read_term(level)
            self.expect(")")
            return term
        if word == "[":
            self.expect("]")
            return ("none",)
        if word in ("yes", "no"):
            return ("truth", word == "yes")
        if is_number(word):
            return ("number", int(word))
        if is_name(word):
            return self.read_named(word, level)
        raise BadText(f"no term begins with {word!r}")

    def read_named(self, name, level):
        if self.ahead() == "(":
            return ("call", name, self.read_terms(level + 1))
        return ("name", name)
