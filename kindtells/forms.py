"""Forms: workers that tell the greatest of the leasts of their lots."""

from kindtells.bits import all_bits, bits_are_of, bits_fall, lots_by_bits, turned_bits
from kindtells.checks import first_twice, is_within
from kindtells.demands import demand_many_numbers, demand_many_places
from kindtells.errors import BadLot, BadManner, BadNumber, BadWorker, Misfit, Twice
from kindtells.form_lists import are_lots, least_lots
from kindtells.papers import fixed
from kindtells.rows import all_rows, many_rows, row_index
from kindtells.told import Told, demand_told, inputs
from kindtells.workers import Worker, demand_input

FORM_MANNERS = ("rank", "either", "least", "ends")


def demand_form_manner(manner):
    """One of rank, either, least and ends."""
    if not isinstance(manner, str) or manner not in FORM_MANNERS:
        raise BadManner("manner")


def demand_unlike_lots(lots):
    """Lots none of which equals one ahead of it, or lies within another one."""
    tuples = fixed(lots)
    twice = first_twice(tuples)
    if twice is not None:
        first = tuples.index(twice)
        # The error keeps the lot as it was passed, list or tuple.
        raise Twice(lots[tuples.index(twice, first + 1)])
    if len(least_lots(tuples)) < len(tuples):
        raise Misfit("lots")


def form_value(lots, row, things):
    """The greatest of the leasts at the lots; the least of an empty lot is the greatest thing."""
    return max([min([row[place] for place in lot], default=things - 1) for lot in lots], default=0)


class Form(Worker):
    """Tells the greatest of the leasts of the things at the places of its lots."""

    def __init__(self, places, lots):
        Worker.__init__(self, places)
        if not are_lots(lots, places):
            raise BadLot("lots")
        demand_unlike_lots(lots)
        self.lots = tuple(sorted(fixed(lots)))

    def __eq__(self, other):
        return type(other) is Form and self.places == other.places and self.lots == other.lots

    def at(self, row, things):
        """The value at an input over a world of so many things."""
        demand_input(self, row, things)
        return form_value(self.lots, row, things)

    def over(self, things):
        """The Told of all values over a world of so many things."""
        rows = inputs(things, self.places)
        return Told(things, self.places, [form_value(self.lots, row, things) for row in rows])

    def is_of(self, manner):
        """Whether the form is of this manner."""
        demand_form_manner(manner)
        return bits_are_of(bits_of(self), manner)

    def turned(self):
        """The turned form."""
        return Form(self.places, lots_by_bits(turned_bits(bits_of(self)), self.places))


def bits_of(form):
    """The values of the form over the world of two things, for all inputs as they ascend."""
    if type(form) is not Form:
        raise BadWorker("form")
    return tuple([form_value(form.lots, row, 2) for row in all_rows(2, form.places)])


def form_by_bits(places, bits):
    """The form with these bits."""
    demand_many_places(places)
    demand_many_numbers(bits, many_rows(2, places), "bits")
    if not all([is_within(bit, 0, 1) for bit in bits]):
        raise BadNumber("bits")
    if bits_fall(bits, places):
        raise Misfit("bits")
    return Form(places, lots_by_bits(bits, places))


def demand_two_forms(one, other):
    """Two forms of as many places."""
    if type(one) is not Form:
        raise BadWorker("one")
    if type(other) is not Form:
        raise BadWorker("other")
    if one.places != other.places:
        raise Misfit("places")


def greatest_of(one, other):
    """The form whose value is always the greater one of theirs."""
    demand_two_forms(one, other)
    return Form(one.places, least_lots(one.lots + other.lots))


def least_of(one, other):
    """The form whose value is always the lesser one of theirs."""
    demand_two_forms(one, other)
    both = [tuple(sorted(set(lot + more))) for lot in one.lots for more in other.lots]
    return Form(one.places, least_lots(both))


def demand_forms(forms, many):
    """A list of so many forms of as many places."""
    if not isinstance(forms, (list, tuple)) or not all([type(form) is Form for form in forms]):
        raise BadWorker("forms")
    if len(forms) != many:
        raise Misfit("forms")
    if any([form.places != forms[0].places for form in forms]):
        raise Misfit("places")


def put(form, forms):
    """The form whose value is that of form at the values of forms, one for each place of form."""
    if type(form) is not Form:
        raise BadWorker("form")
    demand_forms(forms, form.places)
    columns = [bits_of(each) for each in forms]
    bits = [form_value(form.lots, row, 2) for row in zip(*columns)]
    return Form(forms[0].places, lots_by_bits(bits, forms[0].places))


def all_forms(places, manner):
    """The tuple of all forms of this manner, ascending by their lots."""
    demand_many_places(places)
    demand_form_manner(manner)
    found = [bits for bits in all_bits(places) if bits_are_of(bits, manner)]
    forms = [Form(places, lots_by_bits(bits, places)) for bits in found]
    return tuple(sorted(forms, key=lambda form: form.lots))


def form_of(told, manner):
    """The form of this manner that tells what the told function tells over its world; None without one."""
    demand_told(told)
    demand_form_manner(manner)
    if told.things == 1:
        return Form(told.places, ((0,),))
    # A form goes along with the lead of the world of two things to the least and the greatest thing here.
    last = told.things - 1
    rows = [[last * thing for thing in row] for row in all_rows(2, told.places)]
    values = [told.tells[row_index(row, told.things)] for row in rows]
    if any([value not in (0, last) for value in values]):
        return None
    bits = tuple([value // last for value in values])
    if bits_fall(bits, told.places) or not bits_are_of(bits, manner):
        return None
    form = Form(told.places, lots_by_bits(bits, told.places))
    return form if form.over(told.things) == told else None
