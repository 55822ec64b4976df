"""Told functions with two places merged, and of which sort a told function is."""

from kindtells.demands import demand_place
from kindtells.errors import Twice
from kindtells.places import known_of
from kindtells.rows import all_rows, row_index
from kindtells.told import Told, demand_told


def merged_places(places, one, other):
    """For each of so many places the one that it is, with two unlike ones of them merged."""
    lesser, greater = min(one, other), max(one, other)
    return [lesser if place == greater else place - 1 if place > greater else place for place in range(places)]


def merged(told, one, other):
    """The told function with both places merged."""
    demand_told(told)
    demand_place(one, told.places)
    demand_place(other, told.places)
    if one == other:
        raise Twice(one)
    stands = merged_places(told.places, one, other)
    rows = all_rows(told.things, told.places - 1)
    tells = [told.tells[row_index([row[place] for place in stands], told.things)] for row in rows]
    return Told(told.things, told.places - 1, tells)


def place_of(told):
    """The first place that the told function is; None if it is none."""
    worker = known_of(told, "blind")
    return None if worker is None else worker.place


def lone_thing(row):
    """Of three things of which two or more are alike the third one."""
    if row[1] == row[2]:
        return row[0]
    return row[1] if row[0] == row[2] else row[2]


def sort_at_like_inputs(told):
    """The sort of a told function of three places or four that is no place; None without one."""
    rows = [row for row in all_rows(told.things, told.places) if len(set(row)) < told.places]
    tells = [told.tells[row_index(row, told.things)] for row in rows]
    # Of three things of which two are alike the one in the middle is one of these two.
    if told.places == 3 and tells == [sorted(row)[1] for row in rows]:
        return "most"
    if told.places == 3 and tells == [lone_thing(row) for row in rows]:
        return "lone"
    if any([tells == [row[place] for row in rows] for place in range(told.places)]):
        return "nearly"
    return None


def sort_of(told):
    """The sort that the told function is of; None for a place, and for any other."""
    demand_told(told)
    if place_of(told) is not None:
        return None
    if told.places == 1:
        return "moves"
    if told.places > 2:
        return sort_at_like_inputs(told)
    return "mixes" if merged(told, 0, 1).tells == tuple(range(told.things)) else None
