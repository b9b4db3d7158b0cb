"""Reckons a program from its tree, state by state."""

from speakmill.numbers import two_told
from speakmill.trees import parts_of
from speakmill.walking import built_up

DEEPEST = 60
PARTS_OF_STATE = 4


def begun(program, numbers):
    main = function_called(program, "main")
    return (("term", main[3], bound_to(main[2], numbers)), (), 0, 1)


def reckoned(program, numbers, most):
    state = begun(program, numbers)
    while len(state) == PARTS_OF_STATE:
        state = onward(program, state, most)
    return state


def onward(program, state, most):
    if state[0][0] == "term":
        return onward_from_term(program, state, most)
    return onward_from_value(program, state, most)


def function_called(program, name):
    return [function for function in program if function[1] == name][0]


def bound_to(names, values):
    return tuple(zip(names, values))


def onward_from_term(program, state, most):
    term = state[0][1]
    bound = state[0][2]
    if term[0] in ("number", "truth", "none", "name", "fn"):
        return (("value", value_at_once(term, bound)),) + state[1:]
    if term[0] == "call" and len(term[2]) == 0:
        return into_function(program, term[1], (), state[1:], most)
    first = parts_of(term)[0]
    return (("term", first, bound), state[1] + (waiting_of(term, bound),)) + state[2:]


def value_at_once(term, bound):
    form = term[0]
    if form == "none":
        return ("list", ())
    if form == "name":
        return value_bound(term[1], bound)
    if form == "fn":
        return ("fn", term[1], term[2], bound)
    return term[1]


def value_bound(name, bound):
    return [value for other, value in bound if other == name][-1]


# What waits upon the pile while the first part of a term is reckoned.
def waiting_of(term, bound):
    form = term[0]
    if form == "two":
        return ("two", term[1], term[3], bound)
    if form == "one":
        return ("one", term[1])
    if form == "if":
        return ("if", term[2], term[3], bound)
    if form == "let":
        return ("let", term[1], term[3], bound)
    if form == "do":
        return ("do", term[2], bound)
    return ("call", term[1], (), term[2][1:], bound)


def onward_from_value(program, state, most):
    value = state[0][1]
    pile = state[1]
    if len(pile) == 0:
        return ("value", plain_value(value))
    top = pile[-1]
    rest = (pile[:-1],) + state[2:]
    if top[0] == "back":
        return (state[0], rest[0], rest[1], rest[2] - 1)
    if top[0] in ("then", "one"):
        told = told_at_once(top, value)
        return told if told[0] == "refused" else (told,) + rest
    if top[0] == "with":
        return into_fn(top[1], value, rest, most)
    if top[0] == "call" and len(top[3]) == 0:
        return into_function(program, top[1], top[2] + (value,), rest, most)
    return onward_to_term(top, value, rest)


# A value, which is a focus too, or a refusal, which is an answer.
def told_at_once(top, value):
    if top[0] == "one":
        return one_told(top[1], value)
    if top[1] == ":":
        return ("value", ("list", (top[2],) + value[1]))
    return two_told(top[1], top[2], value)


def one_told(word, value):
    if word == "not":
        return ("value", not value)
    items = value[1]
    if word == "empty":
        return ("value", len(items) == 0)
    if len(items) == 0:
        return ("refused", word)
    if word == "head":
        return ("value", items[0])
    return ("value", ("list", items[1:]))


def onward_to_term(top, value, rest):
    form = top[0]
    if form == "if":
        return (("term", top[1] if value else top[2], top[3]),) + rest
    if form == "let":
        return (("term", top[2], top[3] + ((top[1], value),)),) + rest
    if form == "two":
        return pushed(("term", top[2], top[3]), ("then", top[1], value), rest)
    if form == "do":
        return pushed(("term", top[1], top[2]), ("with", value), rest)
    terms = top[3]
    return pushed(("term", terms[0], top[4]), ("call", top[1], top[2] + (value,), terms[1:], top[4]), rest)


# The rest of a state is what stands behind its focus: the pile, the calls, and how deep they are.
def pushed(focus, waits, rest):
    return (focus, rest[0] + (waits,)) + rest[1:]


def into_function(program, name, values, rest, most):
    function = function_called(program, name)
    return into_body(function[3], bound_to(function[2], values), rest, most)


def into_fn(fn, value, rest, most):
    return into_body(fn[2], fn[3] + ((fn[1], value),), rest, most)


def into_body(body, bound, rest, most):
    pile = rest[0]
    calls = rest[1]
    deep = rest[2]
    if calls >= most:
        return ("dry",)
    if deep >= DEEPEST:
        return ("deep",)
    return (("term", body, bound), pile + (("back",),), calls + 1, deep + 1)


# In an answer lists are Python's own ones.
def plain_value(value):
    return built_up(value, items_in, with_items)


def items_in(value):
    return list(value[1]) if is_list(value) else []


def with_items(value, items):
    return items if is_list(value) else value


def is_list(value):
    return isinstance(value, tuple) and value[0] == "list"
