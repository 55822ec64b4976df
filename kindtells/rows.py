"""Rows of things: how many there are, all of them, and where each one stands among them."""


def many_rows(things, many):
    """How many rows of so many things there are over a world of so many things."""
    count = 1
    for _ in range(many):
        count = count * things
    return count


def all_rows(things, many):
    """The list of all rows of so many things over a world of so many things, ascending."""
    rows = [()]
    for _ in range(many):
        rows = [row + (thing,) for row in rows for thing in range(things)]
    return rows


def row_index(row, things):
    """How many rows of as many things stand ahead of this one, as rows ascend."""
    index = 0
    for thing in row:
        index = index * things + thing
    return index
