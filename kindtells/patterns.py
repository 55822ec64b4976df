"""Patterns: at which places of an input the same thing stands."""

from kindtells.demands import demand_many_places, demand_row


def block_numbers(row):
    """For each place of a row the number of its block, as blocks come."""
    unlike = []
    for thing in row:
        if thing not in unlike:
            unlike.append(thing)
    return tuple([unlike.index(thing) for thing in row])


def growing_rows(many):
    """All rows of so many numbers that are 0, or in which each unlike one is told first behind all lesser ones;
    ascending."""
    rows = [()]
    for _ in range(many):
        rows = [row + (number,) for row in rows for number in range(max(row, default=-1) + 2)]
    return rows


def pattern_of(row):
    """The pattern of a row of integers."""
    demand_row(row)
    return block_numbers(row)


def all_patterns(places):
    """The tuple of all patterns of so many places, ascending."""
    demand_many_places(places)
    return tuple(growing_rows(places))
