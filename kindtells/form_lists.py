"""Lists of lots: which lots have no other one within."""

from kindtells.checks import is_lot
from kindtells.demands import MOST_PLACES
from kindtells.errors import BadLot


def are_lots(value, places):
    """Whether it is a list of lots of so many places."""
    return isinstance(value, (list, tuple)) and all([is_lot(lot, places) for lot in value])


def lies_within(one, other):
    """Whether all places of the one lot are in the other one."""
    return all([place in other for place in one])


def has_within(lot, lots):
    """Whether another one of the lots lies within this one."""
    return any([other != lot and lies_within(other, lot) for other in lots])


def least_lots(lots):
    """Of some lots those within which no other one of them lies, each once, ascending."""
    if not are_lots(lots, MOST_PLACES):
        raise BadLot("lots")
    unlike = sorted({tuple(lot) for lot in lots})
    return tuple([lot for lot in unlike if not has_within(lot, unlike)])
