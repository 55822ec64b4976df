"""Rankings: how many unlike things of an input are less than the one at each place."""

from kindtells.demands import demand_many_places, demand_row
from kindtells.rows import all_rows


def rank_numbers(row):
    """For each place of a row the rank of what stands there."""
    unlike = sorted(set(row))
    return tuple([unlike.index(thing) for thing in row])


def gapless_rows(many):
    """All rows of so many numbers that are 0, 1 and so on without a gap; ascending."""
    return [row for row in all_rows(many, many) if len(set(row)) == max(row, default=-1) + 1]


def ranking_of(row):
    """The ranking of a row of integers."""
    demand_row(row)
    return rank_numbers(row)


def all_rankings(places):
    """The tuple of all rankings of so many places, ascending."""
    demand_many_places(places)
    return tuple(gapless_rows(places))
