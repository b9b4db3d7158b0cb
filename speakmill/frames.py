"""Frames, and what a row does to the frame whose next one it is."""

from speakmill.numbers import ROW_SIGNS, two_told


def entered(blocks, number, values):
    begun = tuple(values)
    return (number, 0, begun + (None,) * (blocks[number][1] - len(begun)), ())


def own_done(cells, frame, row):
    word = row[0]
    if word in ROW_SIGNS:
        return two_done(frame, ROW_SIGNS[word])
    if word in ("head", "tail"):
        return part_done(cells, frame, word)
    if word in ("cons", "close"):
        return ("frame", with_new_cell(cells, frame, row))
    if word in ("keep", "skip", "unless"):
        return ("frame", with_nothing_put(frame, row))
    if word in ("empty", "not"):
        top = frame[3][-1]
        return ("frame", behind(frame, 1, (top is None if word == "empty" else not top,)))
    return ("frame", behind(frame, 0, (value_put(frame, row),)))


def called(blocks, cells, frame, row):
    stack = frame[3]
    if row[0] == "call":
        many = row[2]
        return (behind(frame, many, ()), entered(blocks, row[1], top_values(stack, many)))
    fn = cells.at(stack[-2])
    return (behind(frame, 2, ()), entered(blocks, fn[1], fn[2] + stack[-1:]))


# The frame behind its row, which took some values from the stack and put others upon it.
def behind(frame, many_taken, values):
    stack = frame[3]
    return (frame[0], frame[1] + 1, frame[2], stack[:len(stack) - many_taken] + values)


# The lowest one first; many may be 0.
def top_values(stack, many):
    return stack[len(stack) - many:]


def two_done(frame, sign):
    stack = frame[3]
    told = two_told(sign, stack[-2], stack[-1])
    if told[0] == "refused":
        return told
    return ("frame", behind(frame, 2, told[1:]))


def part_done(cells, frame, word):
    top = frame[3][-1]
    if top is None:
        return ("refused", word)
    pair = cells.at(top)
    return ("frame", behind(frame, 1, (pair[1] if word == "head" else pair[2],)))


def with_new_cell(cells, frame, row):
    stack = frame[3]
    if row[0] == "cons":
        return behind(frame, 2, (cells.put(("pair",) + stack[-2:]),))
    many = row[2]
    return behind(frame, many, (cells.put(("fn", row[1], top_values(stack, many))),))


def with_nothing_put(frame, row):
    if row[0] == "keep":
        return with_slot(behind(frame, 1, ()), row[1], frame[3][-1])
    if row[0] == "skip":
        return further(behind(frame, 0, ()), row[1])
    return further(behind(frame, 1, ()), 0 if frame[3][-1] else row[1])


def with_slot(frame, slot, value):
    slots = frame[2]
    return (frame[0], frame[1], slots[:slot] + (value,) + slots[slot + 1:], frame[3])


def further(frame, many_rows):
    return (frame[0], frame[1] + many_rows, frame[2], frame[3])


def value_put(frame, row):
    if row[0] == "push":
        return row[1]
    return frame[2][row[1]] if row[0] == "load" else None
