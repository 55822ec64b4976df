"""Rankings: how many unlike things of an input are less than the one at each place."""

from kindtells.demands import demand_many_places, demand_row
from kindtells.rows import all_rows


def rank_numbers(row):
    """For each place of a row the rank of what stands there."""
    unlike = sorted(set(row))
    return tuple([unlike.index(thing) for thing in row])


def ranking_of(row):
    """The ranking of a row of integers."""
    demand_row(row)
    return rank_numbers(row)


def all_rankings(places):
    """The tuple of all rankings of so many places, ascending."""
    demand_many_places(places)
    # A row is a ranking if its numbers are without a gap.
    return tuple([row for row in all_rows(places, places) if len(set(row)) == max(row) + 1])
