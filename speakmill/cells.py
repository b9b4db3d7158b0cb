"""Cells, in which the machine keeps lists and functions."""

from speakmill.walking import built_up


class Cells:
    def __init__(self):
        self.in_order = []

    def put(self, cell):
        self.in_order.append(cell)
        return ("cell", len(self.in_order) - 1)

    def at(self, value):
        return self.in_order[value[1]]

    def many(self):
        return len(self.in_order)

    def told(self):
        return list(self.in_order)


# Of all values on the machine those alone that are cells are tuples.
def is_cell(value):
    return isinstance(value, tuple)


def plain(cells, value):
    return built_up(value, lambda one: heads_of(cells, one), with_heads)


def heads_of(cells, value):
    found = []
    rest = value
    while is_cell(rest):
        cell = cells.at(rest)
        found.append(cell[1])
        rest = cell[2]
    return found


def with_heads(value, heads):
    return heads if value is None or is_cell(value) else value
