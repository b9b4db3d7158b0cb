"""Kinds tied once more, by replacing each open one in all that was told of it: slow, but plain."""


class Refused(Exception):
    pass


class PlainBonds:
    def __init__(self):
        self.meant = {}

    def seen(self, kind):
        """The kind with what its open ones are tied to in their place."""
        if kind[0] == "open":
            return self.seen(self.meant[kind[1]]) if kind[1] in self.meant else kind
        return kind[:1] + tuple(self.seen(part) for part in kind[1:])

    def tie(self, one, other):
        one, other = self.seen(one), self.seen(other)
        if one == other:
            return
        if one[0] != "open" and other[0] == "open":
            one, other = other, one
        if one[0] == "open":
            if str(one) in str(other):
                raise Refused
            self.meant[one[1]] = other
        elif one[0] != other[0]:
            raise Refused
        else:
            for part, other_part in zip(one[1:], other[1:]):
                self.tie(part, other_part)

    def final(self, kind):
        """The kind, or None where it has more than 60 words."""
        told = number_for_open(self.seen(kind))
        return told if words_of(told) <= 60 else None


def number_for_open(kind):
    if kind[0] == "open":
        return ("number",)
    return kind[:1] + tuple(number_for_open(part) for part in kind[1:])


def words_of(kind):
    return 1 + sum(words_of(part) for part in kind[1:])
