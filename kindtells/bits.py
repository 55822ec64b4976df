"""Bits of forms: their values over the world of two things, for all inputs as they ascend.

An input over two things stands for the lot of the places at which it has 1."""

from kindtells.rows import all_rows, row_index


def lower_inputs(row):
    """The indices of the inputs that have 0 at one place where this row has 1, and are like it elsewhere."""
    return [row_index(row[:place] + (0,) + row[place + 1:], 2) for place, thing in enumerate(row) if thing == 1]


def bits_fall(bits, places):
    """Whether the bits are 1 at an input and 0 at another one that has 1 wherever this one has."""
    # If they fall at all, they fall somewhere from an input to one with 1 at just one more place.
    for row, bit in zip(all_rows(2, places), bits):
        if bit == 0 and any([bits[lower] == 1 for lower in lower_inputs(row)]):
            return True
    return False


def lots_by_bits(bits, places):
    """The lots of the form with these bits, which do not fall: the least ones at which they are 1."""
    lots = []
    for row, bit in zip(all_rows(2, places), bits):
        if bit == 1 and not any([bits[lower] == 1 for lower in lower_inputs(row)]):
            lots.append(tuple([place for place, thing in enumerate(row) if thing == 1]))
    return lots


def turned_bits(bits):
    """The bits of the turned form: with all things exchanged the inputs stand the other way round."""
    return tuple([1 - bit for bit in bits[::-1]])


def all_bits(places):
    """All bits of so many places that do not fall: with 0 at place 0 those of one place less, and with 1 there
    such ones that are nowhere less."""
    found = [(0,), (1,)]
    for _ in range(places):
        pairs = [(low, high) for low in found for high in found]
        found = [low + high for low, high in pairs if all([one <= other for one, other in zip(low, high)])]
    return found


def bits_are_of(bits, manner):
    """Whether the form with these bits is of the manner, one of rank, either, least and ends."""
    if manner == "ends":
        return True
    if manner == "least":
        return bits[0] == 0
    if manner == "rank":
        return bits[0] == 0 and bits[-1] == 1
    return bits[0] == 0 and bits[-1] == 1 and bits == turned_bits(bits)


def inputs_by_steps(things, places):
    """For each input over a world, ascending: for each thing but 0 the index of the input over two things that has 1
    where this thing or a greater one stands."""
    return [
        [row_index([1 if thing > lower else 0 for thing in row], 2) for lower in range(things - 1)]
        for row in all_rows(things, places)]


def values_by_bits(bits, steps):
    """The values of the form with these bits at all inputs over a world, for which inputs_by_steps tells the steps."""
    # The value is a thing, or a greater one, just if the bit for this thing is 1.
    return tuple([sum([bits[index] for index in indices]) for indices in steps])
