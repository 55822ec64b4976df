"""What is made of told functions by putting some into the places of others."""

from kindtells.errors import BadTold, Misfit, TooMany
from kindtells.growth import GROWING_PLACES, Growth
from kindtells.merged import merged, merged_places, place_of, sort_of
from kindtells.papers import Denial, Paper, fixed
from kindtells.steps import values_by_steps
from kindtells.told import Told, are_tolds, demand_told

MOST_GROWING_FUNCTIONS = 3
MOST_MADE = 30
GROWING_WORLDS = (2, 3)


class Makes(Paper):
    """These steps make of a told function one of this sort."""

    def __init__(self, name, steps, told):
        Paper.__init__(self, "makes", name, steps, told)
        self.name = fixed(name)
        self.steps = fixed(steps)
        self.told = fixed(told)


class IsPlace(Denial):
    """A told function is this place."""

    def __init__(self, place):
        Denial.__init__(self, "isplace", place)
        self.place = fixed(place)


class Made(Paper):
    """These steps make what is wished; without steps it is a place."""

    def __init__(self, steps):
        Paper.__init__(self, "made", steps)
        self.steps = fixed(steps)


class Lot(Denial):
    """What is wished is not made; these are all that are."""

    def __init__(self, functions):
        Denial.__init__(self, "lot", functions)
        self.functions = fixed(functions)


def open_merging(told):
    """Two places of a told function with which merged it is no place; None without such."""
    for greater in range(told.places):
        for lesser in range(greater):
            if place_of(merged(told, lesser, greater)) is None:
                return lesser, greater
    return None


def place_for_itself(told):
    """The place of a told function of three places into which it is put itself, so that this makes one of most: the
    place beside the two at which it tells the thing that they share. All its mergings are places."""
    # The third place is the one that has 1 here: place 2, 1, 0.
    rows = [[0, 0, 1], [0, 1, 0], [1, 0, 0]]
    return 2 - [told.at(row) for row in rows].index(0)


def makes(told):
    """The IsPlace of the first place that the told function is; otherwise a Makes."""
    demand_told(told)
    place = place_of(told)
    if place is not None:
        return IsPlace(place)
    # Each place of told, and at which place of what is made by merging it stands.
    stands = list(range(told.places))
    least = told
    merging = open_merging(least)
    while merging is not None:
        numbers = merged_places(least.places, merging[0], merging[1])
        stands = [numbers[number] for number in stands]
        least = merged(least, merging[0], merging[1])
        merging = open_merging(least)
    steps = [[0] + stands]
    if sort_of(least) is None:
        place = place_for_itself(least)
        steps.append([0] + [least.places if number == place else number for number in stands])
    made = Told(told.things, least.places, values_by_steps([told], steps, least.places))
    return Makes(sort_of(made), steps, made)


def demand_making(functions, wished):
    """One to three told functions, and one that is wished: of three places, over one world of two or three things."""
    if not are_tolds(functions, MOST_GROWING_FUNCTIONS):
        raise BadTold("functions")
    if type(wished) is not Told:
        raise BadTold("wished")
    tolds = list(functions) + [wished]
    if any([told.places != GROWING_PLACES for told in tolds]):
        raise Misfit("places")
    if wished.things not in GROWING_WORLDS or any([told.things != wished.things for told in tolds]):
        raise Misfit("things")


def growth_of(functions, wished):
    """What is made of these functions, if it can be asked whether they make what is wished."""
    demand_making(functions, wished)
    growth = Growth(wished.things, [told.tells for told in functions], MOST_MADE)
    if growth.has_too_many():
        raise TooMany("functions", MOST_MADE)
    return growth


def all_made(growth):
    """The list of all told functions that are made, ascending by their values."""
    return [Told(growth.things, GROWING_PLACES, tells) for tells in sorted(growth.made)]


def made_of(functions, wished):
    """The Made of steps that make what is wished of the functions; otherwise the Lot of all that are made of them."""
    growth = growth_of(functions, wished)
    number = growth.number_of(wished.tells)
    if number is None:
        return Lot(all_made(growth))
    return Made(growth.steps[:max(0, number + 1 - GROWING_PLACES)])
