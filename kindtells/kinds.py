"""Kinds: values of several shapes, functions from a kind to a kind, and the workers that tell them."""

from kindtells.check_along import is_row
from kindtells.checks import are_numbers, is_within
from kindtells.demands import demand_world
from kindtells.errors import BadKind, BadManner, BadNumber, BadWorker, TooMany
from kindtells.forms import Form, form_of, form_value
from kindtells.manners import few_rows
from kindtells.papers import fixed
from kindtells.patterns import block_numbers, growing_rows
from kindtells.places import known_of
from kindtells.rankings import gapless_rows, rank_numbers
from kindtells.rows import all_rows, many_rows, row_index
from kindtells.told import MOST_VALUES, Told

MOST_SHAPES = 4
MOST_SHAPE_PLACES = 3
# In these a row has a place or a form for each place that is told, in the others a row for each pattern or ranking.
SHAPE_MANNERS = ("blind", "rank", "either")
VIEW_MANNERS = ("alike", "order")


class Kind:
    """Its values are of several shapes, each of which has so many places."""

    def __init__(self, shapes):
        if not are_numbers(shapes) or not 1 <= len(shapes) <= MOST_SHAPES:
            raise BadNumber("shapes")
        if not all([0 <= places <= MOST_SHAPE_PLACES for places in shapes]):
            raise BadNumber("shapes")
        self.shapes = tuple(shapes)

    def __eq__(self, other):
        return type(other) is Kind and self.shapes == other.shapes


def demand_kind(value, part):
    """A kind."""
    if type(value) is not Kind:
        raise BadKind(part)


def demand_kind_manner(manner):
    """One of the five manners that are asked of kinds."""
    if not isinstance(manner, str) or manner not in SHAPE_MANNERS + VIEW_MANNERS:
        raise BadManner("manner")


def many_values(kind, things):
    """How many values of the kind there are over a world of so many things."""
    return sum([many_rows(things, places) for places in kind.shapes])


def all_values(kind, things):
    """The list of all values of the kind over a world of so many things, ascending."""
    return [(shape,) + row for shape, places in enumerate(kind.shapes) for row in all_rows(things, places)]


def value_index(value, kind, things):
    """How many values of the kind stand ahead of this one, as they ascend."""
    lesser = sum([many_rows(things, places) for places in kind.shapes[:value[0]]])
    return lesser + row_index(value[1:], things)


def is_value(value, kind, things):
    """Whether it is a value of the kind over a world of so many things."""
    if not are_numbers(value) or len(value) == 0 or not is_within(value[0], 0, len(kind.shapes) - 1):
        return False
    return is_row(value[1:], things, kind.shapes[value[0]])


def demand_few_kind_values(kind, things):
    """No more values of the kind than a function may be told by."""
    if many_values(kind, things) > MOST_VALUES:
        raise TooMany("values", MOST_VALUES)


def kind_values(kind, things):
    """The tuple of the values of the kind over a world of so many things, ascending."""
    demand_kind(kind, "kind")
    demand_world(things, "things")
    demand_few_kind_values(kind, things)
    return tuple(all_values(kind, things))


def are_values(value, many, kind, things):
    """Whether it is a list of so many values of the kind over a world of so many things."""
    if not isinstance(value, (list, tuple)) or len(value) != many:
        return False
    return all([is_value(item, kind, things) for item in value])


class KindTold:
    """A function from a kind to a kind: its values stand as the values of the first kind ascend."""

    def __init__(self, things, kind, into, tells):
        demand_world(things, "things")
        demand_kind(kind, "kind")
        demand_kind(into, "into")
        if not are_values(tells, many_values(kind, things), into, things):
            raise BadKind("tells")
        demand_few_kind_values(kind, things)
        self.things = things
        self.kind = kind
        self.into = into
        self.tells = fixed(tells)

    def __eq__(self, other):
        if type(other) is not KindTold or self.things != other.things:
            return False
        return self.kind == other.kind and self.into == other.into and self.tells == other.tells

    def at(self, value):
        """What it tells of a value of the first kind."""
        if not is_value(value, self.kind, self.things):
            raise BadKind("value")
        return self.tells[value_index(value, self.kind, self.things)]


def view_of(manner, row):
    """The pattern of a row, perhaps an empty one, for alike; its ranking for order."""
    return block_numbers(row) if manner == "alike" else rank_numbers(row)


def all_views(manner, places):
    """The list of all patterns of so many places, perhaps none, for alike; of all rankings for order."""
    return growing_rows(places) if manner == "alike" else gapless_rows(places)


def is_part(value, manner, places):
    """Whether it is what a worker of blind, rank or either has for a place, over so many places."""
    if manner == "blind":
        return is_within(value, 0, places - 1)
    return type(value) is Form and value.places == places and value.is_of(manner)


def is_shaped(value, into):
    """Whether it is a list of a shape of this kind and, behind it, as many values as the shape has places."""
    if not isinstance(value, (list, tuple)) or len(value) == 0:
        return False
    return is_within(value[0], 0, len(into.shapes) - 1) and len(value) == 1 + into.shapes[value[0]]


def is_worker_row(value, manner, places, into):
    """Whether it is what a worker of the manner has for a shape of so many places."""
    if manner in SHAPE_MANNERS:
        return is_shaped(value, into) and all([is_part(part, manner, places) for part in value[1:]])
    views = all_views(manner, places)
    if not isinstance(value, (list, tuple)) or len(value) != len(views):
        return False
    return all([is_view_row(row, view, into) for row, view in zip(value, views)])


def is_view_row(value, view, into):
    """Whether it is a shape of this kind with a block of the pattern, or a rank of the ranking, for each place."""
    return is_shaped(value, into) and all([is_within(number, 0, max(view, default=-1)) for number in value[1:]])


def are_worker_rows(value, manner, kind, into):
    """Whether it is a list of what a worker of the manner has for each shape of the first kind."""
    if not isinstance(value, (list, tuple)) or len(value) != len(kind.shapes):
        return False
    return all([is_worker_row(row, manner, places, into) for row, places in zip(value, kind.shapes)])


class KindWorker:
    """A worker from a kind to a kind: its rows tell for each shape of the first kind what it does."""

    def __init__(self, manner, kind, into, rows):
        demand_kind_manner(manner)
        demand_kind(kind, "kind")
        demand_kind(into, "into")
        if not are_worker_rows(rows, manner, kind, into):
            raise BadWorker("rows")
        self.manner = manner
        self.kind = kind
        self.into = into
        self.rows = fixed(rows)

    def __eq__(self, other):
        if type(other) is not KindWorker or self.manner != other.manner:
            return False
        return self.kind == other.kind and self.into == other.into and self.rows == other.rows

    def over(self, things):
        """The KindTold of all values over a world of so many things."""
        demand_world(things, "things")
        tells = []
        for told, places in zip(self.rows, self.kind.shapes):
            tells.extend(shape_tells(self.manner, told, places, things))
        return KindTold(things, self.kind, self.into, tells)


def part_value(part, row, things):
    """The thing at a place, or the value of a form, at a row of things."""
    return form_value(part.lots, row, things) if type(part) is Form else row[part]


def shape_tells(manner, told, places, things):
    """The list of what a worker with this row for a shape of so many places tells of the values of the shape."""
    rows = all_rows(things, places)
    if manner in SHAPE_MANNERS:
        return [told[:1] + tuple([part_value(part, row, things) for part in told[1:]]) for row in rows]
    chosen = {view: choice for view, choice in zip(all_views(manner, places), told)}
    tells = []
    for row in rows:
        view = view_of(manner, row)
        choice = chosen[view]
        tells.append(choice[:1] + tuple([row[view.index(number)] for number in choice[1:]]))
    return tells


def demand_kind_told(told, manner):
    """A function from a kind to a kind, and one of the five manners."""
    if type(told) is not KindTold:
        raise BadKind("told")
    demand_kind_manner(manner)


def led_value(value, lead_row):
    """The value, led by its things."""
    return value[:1] + tuple([lead_row[thing] for thing in value[1:]])


def kind_goes_along(told, lead_row):
    """Whether the function goes along with the lead with this row from its world to itself."""
    tells = {value: told_value for value, told_value in zip(all_values(told.kind, told.things), told.tells)}
    return all([tells[led_value(value, lead_row)] == led_value(tells[value], lead_row) for value in tells])


def kind_keeps(told, manner):
    """Whether the function goes along with all leads of the manner from its world to itself."""
    demand_kind_told(told, manner)
    return all([kind_goes_along(told, row) for row in few_rows(manner, told.things)])


def part_of(told, manner):
    """The place of the first Place, or the Form of the manner, that tells a told function; None without one."""
    if manner != "blind":
        return form_of(told, manner)
    place = known_of(told, manner)
    return None if place is None else place.place


def shape_row(told, manner, places, tells):
    """The row of the first worker of blind, rank or either that tells these values of a shape; None without one."""
    shape = tells[0][0]
    if any([value[0] != shape for value in tells]):
        return None
    if places == 0:
        return tells[0] if len(tells[0]) == 1 else None
    columns = [[value[1 + place] for value in tells] for place in range(told.into.shapes[shape])]
    parts = [part_of(Told(told.things, places, column), manner) for column in columns]
    return None if any([part is None for part in parts]) else (shape,) + tuple(parts)


def view_rows(told, manner, places, tells):
    """The rows of the first worker of alike or order that tells these values of a shape; None without one."""
    found = {}
    for row, value in zip(all_rows(told.things, places), tells):
        if any([thing not in row for thing in value[1:]]):
            return None
        view = view_of(manner, row)
        chosen = value[:1] + tuple([view[row.index(thing)] for thing in value[1:]])
        if found.setdefault(view, chosen) != chosen:
            return None
    unasked = (0,) + (0,) * told.into.shapes[0]
    return tuple([found.get(view, unasked) for view in all_views(manner, places)])


def kind_worker_of(told, manner):
    """The first worker of the manner that tells the function; None without one."""
    demand_kind_told(told, manner)
    rows = []
    begin = 0
    for places in told.kind.shapes:
        tells = told.tells[begin:begin + many_rows(told.things, places)]
        begin += len(tells)
        if manner in SHAPE_MANNERS:
            rows.append(shape_row(told, manner, places, tells))
        else:
            rows.append(view_rows(told, manner, places, tells))
    if any([row is None for row in rows]):
        return None
    return KindWorker(manner, told.kind, told.into, rows)
