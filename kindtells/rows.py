"""Rows of things: how many there are, all of them, and where each one stands among them."""

from itertools import combinations


def many_rows(things, many):
    """How many rows of so many things there are over a world of so many things."""
    count = 1
    for _ in range(many):
        count = count * things
    return count


def all_rows(things, many):
    """The list of all rows of so many things over a world of so many things, ascending."""
    rows = [()]
    for _ in range(many):
        rows = [row + (thing,) for row in rows for thing in range(things)]
    return rows


def row_index(row, things):
    """How many rows of as many things stand ahead of this one, as rows ascend."""
    index = 0
    for thing in row:
        index = index * things + thing
    return index


def row_at(index, things, many):
    """The row of so many things ahead of which so many rows stand, as rows ascend."""
    row = []
    for _ in range(many):
        row.append(index % things)
        index = index // things
    return tuple(row[::-1])


def led_indices(row, into, many):
    """For each row of so many things, as they ascend, the index of the row to which it is led, place by place,
    by the lead with this row into a world of so many things."""
    indices = [0]
    for _ in range(many):
        indices = [index * into + thing for index in indices for thing in row]
    return indices


def rising_rows(begin, into):
    """The list of all rows of so many things, over a world of so many, in which each is greater than the one ahead
    of it; ascending."""
    return list(combinations(range(into), begin))
