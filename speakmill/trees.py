"""Terms as trees: their parts, depth and size."""

# Where the parts begin in the tuple of a term; they go on to its end.
PARTS_FROM = {"two": 2, "one": 2, "if": 1, "let": 2, "fn": 2, "do": 1}


def parts_of(term):
    form = term[0]
    if form == "call":
        return list(term[2])
    if form in PARTS_FROM:
        return list(term[PARTS_FROM[form]:])
    return []


# Depth and size go down level by level, so that a deep term needs no deep calls.
def depth_of(term):
    depth = 0
    level = [term]
    while level:
        depth += 1
        level = parts_of_all(level)
    return depth


def size_of(term):
    size = 0
    level = [term]
    while level:
        size += len(level)
        level = parts_of_all(level)
    return size


def parts_of_all(terms):
    found = []
    for term in terms:
        found.extend(parts_of(term))
    return found
