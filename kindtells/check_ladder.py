"""Which papers show the topmost manners that a told function keeps."""

from kindtells.along import Parting
from kindtells.check_along import shows_parting
from kindtells.ladder import Ladder, ladder_papers, topmost_of
from kindtells.told import demand_told


def are_strings(value):
    """Whether it is a list of strings, perhaps empty."""
    return isinstance(value, (list, tuple)) and all([isinstance(item, str) for item in value])


def are_partings(told, manners, value):
    """Whether it is a list of a Parting for each of these manners, in their order."""
    if not isinstance(value, (list, tuple)) or len(value) != len(manners):
        return False
    if not all([type(paper) is Parting for paper in value]):
        return False
    return all([shows_parting(told, told, manner, paper.lead, paper.row) for manner, paper in zip(manners, value)])


def shows_ladder(told, value):
    """Whether the value is a right Ladder of the told function."""
    demand_told(told)
    if type(value) is not Ladder or not are_strings(value.manners):
        return False
    papers = ladder_papers(told)
    if list(value.manners) != topmost_of(papers, told.things):
        return False
    return are_partings(told, [manner for manner, paper in papers.items() if not paper], value.partings)
