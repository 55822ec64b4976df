"""Steps: what comes of told functions over one world by putting some into the places of others, told by values.

Numbered are the places first, in their order, then the steps, in theirs."""

from kindtells.checks import is_within
from kindtells.rows import all_rows


def place_values(things, places):
    """For each of so many places the values, at all inputs, of the function that is this place."""
    rows = all_rows(things, places)
    return [tuple([row[place] for row in rows]) for place in range(places)]


def put_values(told, parts):
    """The values of the told function with these parts, told by their values, put into its places."""
    indices = [0] * len(parts[0])
    for part in parts:
        indices = [index * told.things + thing for index, thing in zip(indices, part)]
    return tuple([told.tells[index] for index in indices])


def is_step(value, functions, many):
    """Whether it is the number of one of the functions and, behind it, for each of its places one of so many numbers
    of what is there already."""
    if not isinstance(value, (list, tuple)) or len(value) == 0 or not is_within(value[0], 0, len(functions) - 1):
        return False
    if len(value) != 1 + functions[value[0]].places:
        return False
    return all([is_within(number, 0, many - 1) for number in value[1:]])


def are_steps(value, functions, places):
    """Whether it is a list of steps with these functions for so many places, perhaps an empty one."""
    if not isinstance(value, (list, tuple)):
        return False
    return all([is_step(step, functions, places + at) for at, step in enumerate(value)])


def values_by_steps(functions, steps, places):
    """The values that one step or more make of these functions, over one world, for so many places."""
    made = place_values(functions[0].things, places)
    for step in steps:
        made.append(put_values(functions[step[0]], [made[number] for number in step[1:]]))
    return made[-1]
