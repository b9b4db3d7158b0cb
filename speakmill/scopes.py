"""Places the names of a program: each one becomes a slot of a frame."""

from speakmill.errors import BadName
from speakmill.trees import parts_of
from speakmill.walking import built_up

# A scope is what holds in a frame at some place: None, or a tuple of the innermost binding's name, its slot, and the
# scope round it. The slots of a scope rise by one from 0 on, so the innermost one tells how many bindings hold.


def placed(program):
    numbers = function_numbers(program)
    if "main" not in numbers:
        raise BadName("no function is called main")
    counts = [len(function[2]) for function in program]
    functions = [placed_function(function, numbers, counts) for function in program]
    return (functions, numbers["main"])


def function_numbers(program):
    numbers = {}
    for number, function in enumerate(program):
        name = function[1]
        if name in numbers:
            raise BadName(f"two functions are called {name}")
        numbers[name] = number
    return numbers


def placed_function(function, numbers, counts):
    names = function[2]
    count = len(names)
    if len(set(names)) != count:
        raise BadName("a function has two parameters of one name")
    begun = parted(function[3], with_names(None, names), numbers, counts)
    body = built_up(begun, lambda node: parted_parts(node, numbers, counts), joined)
    return (count, frame_size(count, body), body)


# A node is a tuple of a placed term without its parts, and a list of these, each with its scope.
def parted(term, scope, numbers, counts):
    form = term[0]
    if form == "name":
        return (("slot", slot_of(term[1], scope)), [])
    if form == "fn":
        return parted_fn(term, scope)
    within = scoped_parts(term, scope)
    if form == "let":
        return (("let", held(scope)), within)
    if form == "call":
        return (("call", number_called(term, numbers, counts)), within)
    return (term[:len(term) - len(within)], within)


def parted_parts(node, numbers, counts):
    return [parted(part, scope, numbers, counts) for part, scope in node[1]]


def parted_fn(term, scope):
    taken = taken_of(term, scope)
    begins_with = with_names(None, [name for name, slot in taken])
    slots = tuple([slot for name, slot in taken])
    return (("fn", slots), scoped_parts(term, begins_with))


# A name that holds nowhere is passed over here: it is refused where it stands.
def taken_of(term, scope):
    wanted = dict([(name, True) for name in free_names(term)])
    found = []
    around = scope
    while around is not None:
        if wanted.pop(around[0], False):
            found.append((around[0], around[1]))
        around = around[2]
    return list(reversed(found))


def number_called(term, numbers, counts):
    name = term[1]
    if name not in numbers:
        raise BadName(f"no function is called {name}")
    number = numbers[name]
    if len(term[2]) != counts[number]:
        raise BadName(f"a call of {name} has more or fewer terms than that has parameters")
    return number


def joined(node, parts):
    head = node[0]
    if head[0] == "call":
        return ("call", head[1], tuple(parts))
    if head[0] == "fn":
        taken = head[1]
        return ("fn", taken, frame_size(len(taken) + 1, parts[0]), parts[0])
    return head + tuple(parts)


def frame_size(begins_with, body):
    size = begins_with
    waiting = [body]
    while waiting:
        term = waiting.pop()
        if term[0] == "let":
            size = max(size, term[1] + 1)
        # What stands in an fn has slots of the fn's own frame.
        if term[0] != "fn":
            waiting.extend(placed_parts(term))
    return size


def placed_parts(term):
    if term[0] == "fn":
        return [term[3]]
    return parts_of(term)


def held(scope):
    if scope is None:
        return 0
    return scope[1] + 1


def with_names(scope, names):
    inner = scope
    for name in names:
        inner = (name, held(inner), inner)
    return inner


def slot_of(name, scope):
    around = scope
    while around is not None:
        if around[0] == name:
            return around[1]
        around = around[2]
    raise BadName(f"nothing is bound to {name}")


def scoped_parts(term, scope):
    if term[0] == "let":
        return [(term[2], scope), (term[3], with_names(scope, [term[1]]))]
    if term[0] == "fn":
        return [(term[2], with_names(scope, [term[1]]))]
    return [(part, scope) for part in parts_of(term)]


def free_names(term):
    found = []
    bindings = {}
    waiting = [term]
    while waiting:
        here = waiting.pop()
        if here[0] == "begin":
            bindings[here[1]] = bindings.get(here[1], 0) + 1
        elif here[0] == "end":
            bindings[here[1]] -= 1
        elif here[0] == "name":
            if bindings.get(here[1], 0) == 0:
                found.append(here[1])
        else:
            waiting.extend(list(reversed(parts_and_bindings(here))))
    return sorted(set(found))


# The parts of a term, and between them where a binding begins and ends.
def parts_and_bindings(term):
    if term[0] == "let":
        return [term[2], ("begin", term[1]), term[3], ("end", term[1])]
    if term[0] == "fn":
        return [("begin", term[1]), term[2], ("end", term[1])]
    return parts_of(term)
