"""Blocks: workers that tell one of the things of their input, by which of them are the same alone."""

from kindtells.along import kept
from kindtells.choices import are_choices, chosen_places, told_choices
from kindtells.errors import BadNumber, BadWorker, Impossible, Misfit
from kindtells.patterns import all_patterns, block_numbers
from kindtells.told import Told, demand_told, inputs
from kindtells.workers import Worker, demand_input


class Blocks(Worker):
    """Tells for each pattern the thing of the chosen block."""

    def __init__(self, places, chosen):
        Worker.__init__(self, places)
        patterns = all_patterns(places)
        if not are_choices(chosen, patterns):
            raise BadNumber("chosen")
        self.chosen = tuple(chosen)
        self.told_places = chosen_places(patterns, self.chosen)

    def __eq__(self, other):
        return type(other) is Blocks and self.places == other.places and self.chosen == other.chosen

    def at(self, row, things):
        """The value at an input over a world of so many things."""
        demand_input(self, row, things)
        return block_thing(self, row)

    def over(self, things):
        """The Told of all values over a world of so many things."""
        rows = inputs(things, self.places)
        return Told(things, self.places, [block_thing(self, row) for row in rows])


def block_thing(blocks, row):
    """The thing of the block that is chosen for the pattern of this row."""
    return row[blocks.told_places[block_numbers(row)]]


def blocks_of_all(members):
    """The Blocks that tells what each of these told functions tells over its world; None without one."""
    choices = told_choices(members, block_numbers)
    if choices is None:
        return None
    places = members[0].places
    return Blocks(places, [choices.get(pattern, 0) for pattern in all_patterns(places)])


def blocks_of(told):
    """The Blocks that tells what the told function tells over its world; None without one."""
    demand_told(told)
    return blocks_of_all((told,))


def left_over(told):
    """The tuple of the patterns at which a told function that keeps alike tells the thing left over."""
    demand_told(told)
    paper = kept(told, "alike")
    if not paper:
        raise Impossible(paper)
    # A pattern is itself an input with this pattern, of the least things, if the world has enough of them.
    lacking_one = [pattern for pattern in all_patterns(told.places) if max(pattern) + 2 == told.things]
    return tuple([pattern for pattern in lacking_one if told.at(pattern) not in pattern])


def demand_others(others, many):
    """A list of so many Blocks of as many places."""
    if not isinstance(others, (list, tuple)) or not all([type(other) is Blocks for other in others]):
        raise BadWorker("others")
    if len(others) != many:
        raise Misfit("others")
    if any([other.places != others[0].places for other in others]):
        raise Misfit("places")


def put_blocks(blocks, others):
    """The Blocks whose value is that of blocks at the values of others, one for each place of blocks."""
    if type(blocks) is not Blocks:
        raise BadWorker("blocks")
    demand_others(others, blocks.places)
    chosen = []
    for pattern in all_patterns(others[0].places):
        # Asked at a pattern, what a Blocks tells is the number of a block.
        chosen.append(block_thing(blocks, [block_thing(other, pattern) for other in others]))
    return Blocks(others[0].places, chosen)
