"""Writes a placed program as blocks of rows."""

from speakmill.scopes import placed_parts
from speakmill.walking import built_up

SIGN_ROWS = {"+": "add", "-": "sub", "*": "mul", "/": "div", "<": "less", "=": "same", ":": "cons"}


# A counted term is a tuple of a placed term, how many fns stand in it, and a list of its parts, counted as well:
# so the number of a block is known without walking the terms ahead of its fn again.
def counted(term):
    return built_up(term, placed_parts, with_count)


def with_count(term, parts):
    own = 1 if term[0] == "fn" else 0
    return (term, own + sum([part[1] for part in parts]), parts)


def fns_in(term):
    return counted(term)[1]


def rows_of(term, first):
    return rows_of_counted(counted(term), first)


def compiled(placed):
    functions = placed[0]
    of_functions = []
    of_fns = []
    for function in functions:
        body = counted(function[2])
        first = len(functions) + len(of_fns)
        of_functions.append(block_of(function[0], function[1], body, first))
        of_fns.extend(blocks_of_fns(body, first))
    return (of_functions + of_fns, placed[1])


def block_of(count, size, body, first):
    return (count, size, rows_of_counted(body, first) + (("back",),))


def blocks_of_fns(body, first):
    found = []
    for number, fn in enumerate(every_fn(body), start=first):
        term = fn[0]
        # The fns that stand in this one come right behind it.
        found.append(block_of(len(term[1]) + 1, term[2], fn[2][0], number + 1))
    return found


# All the fns of a counted term, each one ahead of those that stand in it.
def every_fn(body):
    found = []
    waiting = [body]
    while waiting:
        one = waiting.pop()
        if one[0][0] == "fn":
            found.append(one)
        waiting.extend(list(reversed(one[2])))
    return found


def rows_of_counted(body, first):
    return tuple(built_up((body, first), numbered_parts, rows_with))


# A node is a tuple of a counted term and the number of the first block of its fns.
def numbered_parts(node):
    term = node[0][0]
    number = node[1]
    # What stands in an fn has its rows in the fn's own block.
    if term[0] == "fn":
        return []
    found = []
    for part in node[0][2]:
        found.append((part, number))
        number += part[1]
    return found


# The rows of a term: rows are lists of those of its parts.
def rows_with(node, rows):
    term = node[0][0]
    form = term[0]
    if form in ("number", "truth"):
        return [("push", term[1])]
    if form == "none":
        return [("none",)]
    if form == "slot":
        return [("load", term[1])]
    if form == "if":
        return rows_of_if(rows[0], rows[1], rows[2])
    if form == "let":
        return rows[0] + [("keep", term[1])] + rows[1]
    if form == "fn":
        return [("load", slot) for slot in term[1]] + [("close", node[1], len(term[1]))]
    return one_behind_the_other(rows) + [last_row(term)]


def rows_of_if(asked, chosen, other):
    return asked + [("unless", len(chosen) + 1)] + chosen + [("skip", len(other))] + other


def one_behind_the_other(rows):
    found = []
    for some in rows:
        found.extend(some)
    return found


def last_row(term):
    form = term[0]
    if form == "two":
        return (SIGN_ROWS[term[1]],)
    if form == "one":
        return (term[1],)
    if form == "do":
        return ("apply",)
    return ("call", term[1], len(term[2]))
