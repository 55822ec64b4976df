"""Growth: all functions of three places that are made of some, each told by its values, and the steps to them."""

from itertools import permutations

from kindtells.rows import all_rows, led_indices, row_index
from kindtells.steps import place_values

GROWING_PLACES = 3


def orders_of_inputs(things):
    """For each order of the three places the indices of all inputs with their things in this order."""
    rows = all_rows(things, GROWING_PLACES)
    found = []
    for order in permutations(range(GROWING_PLACES)):
        found.append([row_index([row[place] for place in order], things) for row in rows])
    return found


def at_inputs(tells, indices):
    """The values at the inputs of these indices, in their order."""
    return tuple([tells[index] for index in indices])


def goes_along(tells, row, led):
    """Whether the function with these values goes along with the lead of this row, which leads inputs to these."""
    return [tells[index] for index in led] == [row[value] for value in tells]


def telling_inputs(things, functions):
    """The indices of inputs at which unlike functions that are made of these have unlike values.

    What is made goes along with all leads with which these go along: so the value at an input tells those at all inputs
    to which it is led."""
    rows = all_rows(things, GROWING_PLACES)
    leading = [(row, led_indices(row, things, GROWING_PLACES)) for row in all_rows(things, things)]
    for tells in functions:
        leading = [(row, led) for row, led in leading if goes_along(tells, row, led)]
    found = []
    reached = set()
    for many in range(GROWING_PLACES, 0, -1):
        # Inputs with more unlike things come first, for they are led to more others.
        for index in [at for at, row in enumerate(rows) if len(set(row)) == many]:
            if index not in reached:
                found.append(index)
                for _, led in leading:
                    reached.add(led[index])
    return found


class Growth:
    """What is made of some functions over a world: the places, and behind them what the steps make.

    With each function its orbit is made, that is all that come of it by another order of its places."""

    def __init__(self, things, functions, most):
        self.things = things
        self.most = most
        self.orders = orders_of_inputs(things)
        # The values at these inputs stand for a function while others are made.
        self.asked = telling_inputs(things, functions)
        self.made = place_values(things, GROWING_PLACES)
        self.numbers = {at_inputs(tells, self.asked): number for number, tells in enumerate(self.made)}
        self.steps = []
        # Behind each orbit: how many functions there are then. The places are one.
        self.ends = [GROWING_PLACES]
        self.grow([(number, tells) for number, tells in enumerate(functions) if tells not in functions[:number]])

    def has_too_many(self):
        """Whether more are made than the most that are asked; then the growth has ended early."""
        return len(self.made) > self.most

    def number_of(self, tells):
        """The number of the place or the step that makes the function with these values; None if it is not made."""
        number = self.numbers.get(at_inputs(tells, self.asked))
        return number if number is not None and self.made[number] == tells else None

    def grow(self, functions):
        """Put what is made into the places of these functions until nothing new comes."""
        at = 0
        begin = 0
        while at < len(self.ends) and not self.has_too_many():
            # Of some parts the one of the last orbit can be taken for the first one there: to put them in with their
            # places in another order gives the same function with its places in this order, which is in its orbit.
            end = self.ends[at]
            others = [at_inputs(tells, self.asked) for tells in self.made[:end]]
            for number, tells in functions:
                for place in range(GROWING_PLACES):
                    self.put_in(number, tells, place, others[begin], others)
            begin = end
            at += 1

    def put_in(self, number, function, place, part, others):
        """Put this part into the one place of a function, and any two of the others into the other places; all told by
        their values at the asked inputs."""
        weights = [self.things * self.things, self.things, 1]
        here = weights.pop(place)
        start = [here * thing for thing in part]
        for one in others:
            half = [index + weights[0] * thing for index, thing in zip(start, one)]
            for other in others:
                tells = tuple([function[index + weights[1] * thing] for index, thing in zip(half, other)])
                if tells not in self.numbers:
                    parts = [self.numbers[one], self.numbers[other]]
                    parts.insert(place, self.numbers[part])
                    self.add_orbit(number, function, parts)
            if self.has_too_many():
                return

    def add_orbit(self, number, function, parts):
        """Add what the function of this number makes of the parts of these numbers, and all of its orbit."""
        columns = [self.made[part] for part in parts]
        tells = tuple([function[row_index(row, self.things)] for row in zip(*columns)])
        for order in self.orders:
            ordered = at_inputs(tells, order)
            asked = at_inputs(ordered, self.asked)
            if asked not in self.numbers:
                stands = [at_inputs(at_inputs(column, order), self.asked) for column in columns]
                self.steps.append((number,) + tuple([self.numbers[column] for column in stands]))
                self.numbers[asked] = len(self.made)
                self.made.append(ordered)
        self.ends.append(len(self.made))
