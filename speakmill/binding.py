"""Open kinds, and what they are tied to."""

from speakmill.errors import BadKind
from speakmill.kinds import kind_parts
from speakmill.walking import built_up

MOST_WORDS = 60


def is_open(kind):
    return kind[0] == "open"


# Each kind that is tied, and each part of it, has an open kind of its own that stands for it, with a number below 0,
# so that it is none of those that were told. So what is one is never looked at twice, and a kind of which all parts
# are one again and again is no more work than its open ones are.
class Bonds:
    def __init__(self):
        self.told_ahead = 0
        self.made_within = 0
        # From the number of an open kind to that of another one, which stands for it.
        self.leads_to = {}
        # From the number of an open kind that stands for itself to a kind of which all parts are open.
        self.shapes = {}

    def fresh(self):
        self.told_ahead += 1
        return ("open", self.told_ahead - 1)

    def tie(self, one, other):
        number = self.number_of(one)
        pairs = [(number, self.number_of(other))]
        while pairs:
            pair = pairs.pop()
            pairs.extend(self.tie_tops(self.last_of(pair[0]), self.last_of(pair[1])))
        self.refuse_within_itself(number)

    def number_of(self, kind):
        return built_up(kind, parts_of_shape, lambda part, numbers: self.number_with(part, numbers))

    def number_with(self, kind, numbers):
        if is_open(kind):
            return kind[1]
        self.made_within += 1
        self.shapes[-self.made_within] = (kind[0],) + tuple([("open", number) for number in numbers])
        return -self.made_within

    def last_of(self, number):
        passed = []
        last = number
        while last in self.leads_to:
            passed.append(last)
            last = self.leads_to[last]
        # The way is made short, or long rows of ties would be walked again and again.
        for one in passed:
            self.leads_to[one] = last
        return last

    # Tells the pairs of numbers that are to be tied yet.
    def tie_tops(self, one, other):
        if one == other:
            return []
        shape = self.shapes.pop(one, None)
        self.leads_to[one] = other
        if shape is None:
            return []
        if other not in self.shapes:
            self.shapes[other] = shape
            return []
        return pairs_within(shape, self.shapes[other])

    # Whatever a tie has made a part of itself is a part of what was tied.
    def refuse_within_itself(self, number):
        standing = {}
        waiting = [("enter", number)]
        while waiting:
            step = waiting.pop()
            last = self.last_of(step[1])
            if step[0] == "leave":
                standing[last] = False
            elif standing.get(last, False):
                raise BadKind("a kind would be a part of itself")
            elif last not in standing:
                standing[last] = True
                waiting.append(("leave", last))
                waiting.extend([("enter", part[1]) for part in kind_parts(self.shape_of(("open", last)))])

    # A kind whose first word is known; an open one that is tied to nothing is number.
    def shape_of(self, kind):
        if not is_open(kind):
            return kind
        return self.shapes.get(self.last_of(kind[1]), ("number",))

    def final(self, kind):
        self.refuse_long(kind)
        return built_up(self.shape_of(kind), lambda shape: self.shapes_within(shape), with_parts)

    def shapes_within(self, shape):
        return [self.shape_of(part) for part in kind_parts(shape)]

    # Ends at the first word too many: the kind itself may be too long to be walked.
    def refuse_long(self, kind):
        count = 0
        waiting = [kind]
        while waiting:
            count += 1
            if count > MOST_WORDS:
                raise BadKind(f"a kind has more than {MOST_WORDS} words")
            waiting.extend(kind_parts(self.shape_of(waiting.pop())))


def parts_of_shape(kind):
    if is_open(kind):
        return []
    return kind_parts(kind)


def pairs_within(shape, other):
    if shape[0] != other[0]:
        raise BadKind("two kinds of unlike forms can't be one")
    return [(part[1], other_part[1]) for part, other_part in zip(kind_parts(shape), kind_parts(other))]


def with_parts(shape, parts):
    return (shape[0],) + tuple(parts)
