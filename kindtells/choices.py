"""Choices by views: a view of an input is its pattern, or its ranking. For each view one of its numbers, of a block
or of a rank, is chosen, and the thing that stands where the view has this number is told."""

from kindtells.checks import are_numbers
from kindtells.rows import all_rows


def are_choices(value, views):
    """Whether it is a list that has for each view one of its numbers."""
    if not are_numbers(value) or len(value) != len(views):
        return False
    return all([0 <= number <= max(view) for number, view in zip(value, views)])


def chosen_places(views, chosen):
    """For each view the first place that has the chosen number."""
    return {view: view.index(number) for view, number in zip(views, chosen)}


def told_choices(members, view_of):
    """For each view of an input of these told functions the number of the thing that they tell there; None if they
    tell what is none of the input, or the things of two numbers of one view."""
    found = {}
    for told in members:
        for row, value in zip(all_rows(told.things, told.places), told.tells):
            if value not in row:
                return None
            view = view_of(row)
            number = view[row.index(value)]
            if found.setdefault(view, number) != number:
                return None
    return found
