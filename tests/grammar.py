"""All readings of a row of words, by trying every split: slow, but straight from point 3."""

from speakmill.words import words

WORDS = ("def", "if", "then", "else", "let", "in", "fn", "yes", "no", "head", "tail", "empty", "not")
# For each strength of signs, least first: the signs, and the strengths of what stands on the left and right.
SIGNS = ((("<", "="), 1, 1), ((":",), 2, 1), (("+", "-"), 2, 3), (("*", "/"), 3, 4))
ONE, DO, TIGHT = 4, 5, 6


def is_name(word):
    return word[0].isalpha() and word not in WORDS


class Grammar:
    def __init__(self, row):
        self.row = row
        self.known = {}

    def readings(self, strength, first, end):
        """Pairs of a tree and whether an if, let or fn without brackets is its last part."""
        key = (strength, first, end)
        if key not in self.known:
            self.known[key] = self.tried(strength, first, end) if first < end else []
        return self.known[key]

    def tried(self, strength, first, end):
        found = [(tree, True) for tree in self.wide(first, end)]
        for level in range(strength, len(SIGNS)):
            found += self.twos(SIGNS[level], first, end)
        if strength <= ONE and self.row[first] in ("head", "tail", "empty", "not"):
            found += [(("one", self.row[first], a), last) for a, last in self.readings(ONE, first + 1, end)]
        if strength <= DO:
            for at, f, a, last in self.splits(("!",), DO, TIGHT, first, end):
                found.append((("do", f, a), last))
        return found + [(tree, False) for tree in self.tight(first, end)]

    def twos(self, level, first, end):
        signs, left, right = level
        return [(("two", self.row[at], a, b), last) for at, a, b, last in self.splits(signs, left, right, first, end)]

    def splits(self, signs, left, right, first, end):
        for at in range(first + 1, end - 1):
            if self.row[at] in signs:
                for a, ends_wide in self.readings(left, first, at):
                    # A wide term goes as far to the right as can be: it can't end where a sign stands.
                    if not ends_wide:
                        for b, last in self.readings(right, at + 1, end):
                            yield at, a, b, last

    def terms(self, first, end):
        return [tree for tree, last in self.readings(0, first, end)]

    def wide(self, first, end):
        row = self.row
        if row[first] == "fn" and end - first > 3 and is_name(row[first + 1]) and row[first + 2] == "=>":
            return [("fn", row[first + 1], a) for a in self.terms(first + 3, end)]
        if row[first] == "let" and end - first > 5 and is_name(row[first + 1]) and row[first + 2] == "=":
            return [("let", row[first + 1], a, b) for at in self.places("in", first, end)
                    for a in self.terms(first + 3, at) for b in self.terms(at + 1, end)]
        if row[first] == "if":
            return [("if", c, a, b) for at in self.places("then", first, end) for c in self.terms(first + 1, at)
                    for to in self.places("else", at, end) for a in self.terms(at + 1, to)
                    for b in self.terms(to + 1, end)]
        return []

    def places(self, word, first, end):
        return [at for at in range(first, end) if self.row[at] == word]

    def tight(self, first, end):
        row = self.row[first:end]
        if len(row) == 1:
            return self.single(row[0])
        if row == ["[", "]"]:
            return [("none",)]
        if row[0] == "(" and row[-1] == ")":
            return self.terms(first + 1, end - 1)
        if is_name(row[0]) and row[1] == "(" and row[-1] == ")" and len(row) > 2:
            return [("call", row[0], terms) for terms in self.listed(first + 2, end - 1) if len(terms) <= 4]
        return []

    def single(self, word):
        if word in ("yes", "no"):
            return [("truth", word == "yes")]
        if word[0].isdigit():
            return [("number", int(word))]
        return [("name", word)] if is_name(word) else []

    def listed(self, first, end):
        if first >= end:
            return [()]
        found = [(term,) for term in self.terms(first, end)]
        for at in self.places(",", first, end):
            if at + 1 < end:
                found += [(term,) + rest for term in self.terms(first, at) for rest in self.listed(at + 1, end)]
        return found


def all_readings(text):
    row = words(text)
    return Grammar(row).terms(0, len(row))
