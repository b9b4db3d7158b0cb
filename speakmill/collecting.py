"""Keeps the cells to which something leads, and lets the others go."""

from speakmill.cells import Cells, is_cell


def swept(cells, values):
    kept = numbers_led_to(cells, values)
    new_numbers = {}
    for number in kept:
        new_numbers[number] = len(new_numbers)
    kept_cells = Cells()
    for number in kept:
        kept_cells.put(moved_cell(cells.at(("cell", number)), new_numbers))
    return (kept_cells, moved(values, new_numbers))


# They rise, so that the kept cells stay in the order in which they were put.
def numbers_led_to(cells, values):
    found = {}
    waiting = list(values)
    while waiting:
        value = waiting.pop()
        if is_cell(value) and value[1] not in found:
            found[value[1]] = True
            waiting.extend(values_in(cells.at(value)))
    return sorted(found)


def values_in(cell):
    return cell[2] if cell[0] == "fn" else cell[1:]


def moved_cell(cell, new_numbers):
    values = tuple(moved(values_in(cell), new_numbers))
    if cell[0] == "fn":
        return ("fn", cell[1], values)
    return ("pair",) + values


def moved(values, new_numbers):
    return [("cell", new_numbers[value[1]]) if is_cell(value) else value for value in values]
