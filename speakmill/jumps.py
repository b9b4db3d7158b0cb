"""Where the rows of a block lead, and rows whose jumps go there straight."""

JUMPS = ("skip", "unless")

# Behind these the next row is not done, unless something else leads to it.
LEAVING = ("skip", "back")


def goals(rows):
    return [number + 1 + row[1] if row[0] in JUMPS else None for number, row in enumerate(rows)]


# Rows lead to later ones alone: whatever leads to a row has been met ahead of it.
def reached(rows):
    led_to = {0: True}
    found = []
    for number, goal in enumerate(goals(rows)):
        if number in led_to:
            found.append(number)
            if goal is not None:
                led_to[goal] = True
            if rows[number][0] not in LEAVING:
                led_to[number + 1] = True
    return found


def without(rows, gone):
    dropped = dict([(number, True) for number in gone])
    left = []
    # For a row that is left its new number, for another one that of the first one left behind it.
    new_numbers = []
    for number in range(len(rows)):
        new_numbers.append(len(left))
        if number not in dropped:
            left.append(number)
    old_goals = goals(rows)
    return tuple([with_goal(rows[number], new_numbers[number], new_goal(old_goals[number], new_numbers))
                  for number in left])


def new_goal(goal, new_numbers):
    return None if goal is None else new_numbers[goal]


# A row that stands at this number; one that is no jump has no goal.
def with_goal(row, number, goal):
    return row if goal is None else (row[0], goal - number - 1)


def reached_alone(rows):
    is_reached = dict([(number, True) for number in reached(rows)])
    return without(rows, [number for number in range(len(rows)) if number not in is_reached])


def threaded(rows):
    straight = reached_alone(straightened(rows))
    # No jump leads to a skip now, so none stands right behind another one: when those of 0 go, no other becomes one.
    return without(straight, [number for number, row in enumerate(straight) if row == ("skip", 0)])


def straightened(rows):
    ends = ends_of_skips(rows)
    return tuple([with_goal_at_end(rows, number, new_goal(goal, ends)) for number, goal in enumerate(goals(rows))])


# For each row the first one that is no skip, from it on by way of skips.
def ends_of_skips(rows):
    ends = list(range(len(rows)))
    old_goals = goals(rows)
    for number in range(len(rows) - 1, -1, -1):
        if rows[number][0] == "skip":
            ends[number] = ends[old_goals[number]]
    return ends


def with_goal_at_end(rows, number, end):
    row = rows[number]
    if row[0] == "skip" and rows[end][0] == "back":
        return rows[end]
    return with_goal(row, number, end)
