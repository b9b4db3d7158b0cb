"""Reckons ahead what rows tell in any case, and takes away a keep that one load alone waits for."""

from speakmill.jumps import goals, reached_alone, without
from speakmill.numbers import ROW_SIGNS, is_whole, two_told

MOST_FOLDED = 3

# How many rows are folded, and the row that stands for them, None without one.
NOTHING_FOLDED = (0, None)


# Again and again, as what is taken away may be the other load of a slot, or the jump that led between two rows.
def folded(rows):
    done = rows
    shorter = folded_once(done)
    while len(shorter) < len(done):
        done = shorter
        shorter = folded_once(done)
    return done


# Unreached rows go as well: no jump is to count that is never done.
def folded_once(rows):
    made = list(rows)
    loads = loads_of_slots(rows)
    left = {}
    for piece in pieces(rows):
        for number in folded_piece(piece, made, loads):
            left[number] = True
    gone = [number for number in range(len(rows)) if number not in left]
    return reached_alone(without(tuple(made), gone))


def loads_of_slots(rows):
    loads = {}
    for row in rows:
        if row[0] == "load":
            loads[row[1]] = loads.get(row[1], 0) + 1
    return loads


# Lists of the numbers of rows: jumps lead to the first one of a piece alone, so all that is folded lies within one.
def pieces(rows):
    led_to = dict([(goal, True) for goal in goals(rows) if goal is not None])
    found = [[]]
    for number in range(len(rows)):
        if number in led_to:
            found.append([])
        found[-1].append(number)
    return found


# Tells the numbers of the rows that are left. In made the row that stands for others is put in the place of the last
# one of them: an unless that becomes a skip goes on as far from there as it did.
def folded_piece(piece, made, loads):
    left = []
    for number in piece:
        left.append(number)
        told = folding([made[one] for one in left[-MOST_FOLDED:]], loads)
        for one in range(told[0]):
            left.pop()
        if told[1] is not None:
            made[number] = told[1]
            left.append(number)
    return left


def folding(last, loads):
    if len(last) < 2:
        return NOTHING_FOLDED
    word = last[-1][0]
    if word in ROW_SIGNS:
        return folding_of_numbers(last, ROW_SIGNS[word])
    if word in ("not", "unless"):
        return folding_of_truth(last[-2], last[-1])
    if word == "load":
        return folding_of_load(last[-2], last[-1], loads)
    return NOTHING_FOLDED


def folding_of_numbers(last, sign):
    pushed = [row[1] for row in last[:-1] if pushes_number(row)]
    if len(pushed) < 2:
        return NOTHING_FOLDED
    told = two_told(sign, pushed[0], pushed[1])
    return NOTHING_FOLDED if told[0] == "refused" else (3, ("push", told[1]))


def folding_of_truth(ahead, row):
    if ahead[0] != "push" or pushes_number(ahead):
        return NOTHING_FOLDED
    if row[0] == "not":
        return (2, ("push", not ahead[1]))
    return (2, None if ahead[1] else ("skip", row[1]))


def folding_of_load(ahead, row, loads):
    if ahead == ("keep", row[1]) and loads[row[1]] == 1:
        return (2, None)
    return NOTHING_FOLDED


# A truth is no number, and stays beside a number where kinds don't go together.
def pushes_number(row):
    return row[0] == "push" and is_whole(row[1])
