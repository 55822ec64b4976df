"""Ranks: workers that tell one of the things of their input, by their order alone."""

from kindtells.choices import are_choices, chosen_places, told_choices
from kindtells.errors import BadNumber, BadWorker
from kindtells.families import demand_family
from kindtells.forms import form_by_bits
from kindtells.rankings import all_rankings, rank_numbers
from kindtells.told import Told, inputs
from kindtells.workers import Worker, demand_input


class Ranks(Worker):
    """Tells for each ranking the thing of the chosen rank."""

    def __init__(self, places, chosen):
        Worker.__init__(self, places)
        rankings = all_rankings(places)
        if not are_choices(chosen, rankings):
            raise BadNumber("chosen")
        self.chosen = tuple(chosen)
        self.told_places = chosen_places(rankings, self.chosen)

    def __eq__(self, other):
        return type(other) is Ranks and self.places == other.places and self.chosen == other.chosen

    def at(self, row, things):
        """The value at an input over a world of so many things."""
        demand_input(self, row, things)
        return rank_thing(self, row)

    def over(self, things):
        """The Told of all values over a world of so many things."""
        rows = inputs(things, self.places)
        return Told(things, self.places, [rank_thing(self, row) for row in rows])


def rank_thing(ranks, row):
    """The thing of the rank that is chosen for the ranking of this row."""
    return row[ranks.told_places[rank_numbers(row)]]


def ranks_of(family):
    """The Ranks that tells each member of the family; None without one."""
    demand_family(family)
    choices = told_choices(family.members, rank_numbers)
    if choices is None:
        return None
    return Ranks(family.places, [choices.get(ranking, 0) for ranking in all_rankings(family.places)])


def put_together(rank, lower):
    """The rank, with 1 taken off if it is above the lower one of the two ranks that are put together."""
    return rank - 1 if rank > lower else rank


def fits(ranks):
    """Whether for each ranking, with two ranks put together, the chosen rank goes along."""
    if type(ranks) is not Ranks:
        raise BadWorker("ranks")
    rankings = all_rankings(ranks.places)
    chosen = {ranking: rank for ranking, rank in zip(rankings, ranks.chosen)}
    for ranking in rankings:
        for lower in range(max(ranking)):
            lesser = tuple([put_together(rank, lower) for rank in ranking])
            if chosen[lesser] != put_together(chosen[ranking], lower):
                return False
    return True


def form_of_ranks(ranks):
    """The form that tells what the Ranks tells over all worlds; None if it does not fit."""
    if not fits(ranks):
        return None
    # Of a Ranks that fits the rankings of one and two ranks, those over two things, tell all.
    return form_by_bits(ranks.places, ranks.over(2).tells)
