"""Places and known things: the workers of blind, one and two, and which of them tells a told function."""

from kindtells.demands import demand_many_places
from kindtells.errors import BadManner, Misfit
from kindtells.manners import demand_two
from kindtells.told import demand_told
from kindtells.workers import Place, Thing

# How many things the workers of each manner know.
KNOWN_THINGS = {"blind": 0, "one": 1, "two": 2}


def demand_known_manner(manner):
    """One of blind, one and two."""
    if not isinstance(manner, str) or manner not in KNOWN_THINGS:
        raise BadManner("manner")


def all_known(places, manner):
    """The tuple of all workers of this manner with so many places: the Places, then the Things."""
    demand_many_places(places)
    demand_known_manner(manner)
    workers = [Place(places, place) for place in range(places)]
    return tuple(workers + [Thing(places, thing) for thing in range(KNOWN_THINGS[manner])])


def known_of(told, manner):
    """The first worker of this manner that tells just this function over its world; None without one."""
    demand_told(told)
    demand_known_manner(manner)
    demand_two(manner, (told.things,))
    # Over one thing, where no Thing 1 is, Place 0 is found ahead of all Things.
    for worker in all_known(told.places, manner):
        if worker.over(told.things) == told:
            return worker
    return None


def is_turned(told):
    """Whether a told function over two things tells x at x .. x, and the other thing where all are exchanged."""
    demand_told(told)
    if told.things != 2:
        raise Misfit("things")
    # With all things exchanged the inputs stand the other way round.
    turned = [1 - value for value in told.tells[::-1]]
    return told.tells[0] == 0 and list(told.tells) == turned
