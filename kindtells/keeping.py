"""Which told functions of so many places over a world keep a manner: all of them by their values, and how many.

Over one thing there is just one. Over more a manner is kept by its workers, by what else keeps it over two things or
three, and in alike by what tells the thing left over."""

from kindtells.bits import all_bits, bits_are_of, inputs_by_steps, turned_bits, values_by_bits
from kindtells.forms import FORM_MANNERS
from kindtells.patterns import block_numbers, growing_rows
from kindtells.places import KNOWN_THINGS, all_known
from kindtells.rows import all_rows, many_rows, row_index


def all_form_bits(manner, places):
    """The list of the bits of all forms of the manner, one of rank, either, least and ends."""
    return [bits for bits in all_bits(places) if bits_are_of(bits, manner)]


def many_free(manner, places):
    """How many values can be told freely over two things, each without regard to the others: in a manner other than
    alike and order."""
    many = many_rows(2, places)
    if manner in ("blind", "either"):
        # 0 is told of the input of noughts; the greater half is told with the lesser one.
        return many // 2 - 1
    return {"rank": many - 2, "one": many - 1, "least": many - 1, "two": many, "ends": many}[manner]


def values_over_two(manner, places):
    """The list of the values of all told functions over two things that keep such a manner."""
    free = all_rows(2, many_free(manner, places))
    if manner in ("blind", "either"):
        halves = [(0,) + row for row in free]
        return [half + turned_bits(half) for half in halves]
    if manner == "rank":
        return [(0,) + row + (1,) for row in free]
    return free if manner in ("two", "ends") else [(0,) + row for row in free]


def value_with_third(bits, row):
    """The value at an input over three things of what keeps two there, and has these bits at inputs of 0 and 1."""
    values = [bits[row_index([other if thing == 2 else thing for thing in row], 2)] for other in (0, 1)]
    return values[0] if values[0] == values[1] else 2


def values_with_third(places):
    """The list of the values of all told functions over three things that keep two."""
    rows = all_rows(3, places)
    return [tuple([value_with_third(bits, row) for row in rows]) for bits in all_bits(places)]


def pattern_choices(things, places):
    """For each pattern that is asked over a world, ascending, how many things can be told at its inputs in alike."""
    blocks = [max(pattern) + 1 for pattern in growing_rows(places)]
    # Besides the things of its blocks the one thing left over, if there is one.
    return [many + 1 if many == things - 1 else many for many in blocks if many <= things]


def values_by_patterns(things, places):
    """The list of the values of all told functions that keep alike."""
    choices = [()]
    for many in pattern_choices(things, places):
        choices = [choice + (number,) for choice in choices for number in range(many)]
    asked = [pattern for pattern in growing_rows(places) if max(pattern) < things]
    rows = all_rows(things, places)
    where = [asked.index(block_numbers(row)) for row in rows]
    # For each input the things of its blocks, as these are numbered; behind them those that it leaves.
    ordered = [[thing for at, thing in enumerate(row) if thing not in row[:at]] for row in rows]
    ordered = [few + [thing for thing in range(things) if thing not in few] for few in ordered]
    return [tuple([few[choice[at]] for few, at in zip(ordered, where)]) for choice in choices]


def all_keeping(manner, things, places):
    """The list of the values of all told functions that keep the manner."""
    if things == 1:
        return [(0,)]
    if manner == "order":
        return all_rows(things, many_rows(things, places))
    if manner == "alike":
        return values_by_patterns(things, places)
    if things == 2:
        return values_over_two(manner, places)
    if manner in FORM_MANNERS:
        steps = inputs_by_steps(things, places)
        return [values_by_bits(bits, steps) for bits in all_form_bits(manner, places)]
    if manner == "two" and things == 3:
        return values_with_third(places)
    return [worker.over(things).tells for worker in all_known(places, manner)]


def many_keeping(manner, things, places):
    """How many told functions keep the manner."""
    if things == 1:
        return 1
    if manner == "order":
        return many_rows(things, many_rows(things, places))
    if manner == "alike":
        count = 1
        for many in pattern_choices(things, places):
            count = count * many
        return count
    if things == 2:
        return many_rows(2, many_free(manner, places))
    if manner in FORM_MANNERS:
        return len(all_form_bits(manner, places))
    if manner == "two" and things == 3:
        return len(all_bits(places))
    return places + KNOWN_THINGS[manner]
