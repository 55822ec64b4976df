"""Programs: which worker tells a told function or a family, and what keeps a manner in its own worlds alone."""

from kindtells.along import demand_told_manner
from kindtells.blocks import blocks_of_all
from kindtells.demands import demand_many_places, demand_world
from kindtells.errors import TooMany
from kindtells.families import Family, demand_family_manner, family_kept
from kindtells.forms import FORM_MANNERS, form_of
from kindtells.keeping import all_keeping, many_keeping
from kindtells.manners import demand_manner, demand_two
from kindtells.papers import Denial, Paper, fixed
from kindtells.places import KNOWN_THINGS, all_known
from kindtells.ranks import ranks_of
from kindtells.told import Told, demand_few_values

MOST_KEPT = 200


class Program(Paper):
    """This worker tells it."""

    def __init__(self, worker):
        Paper.__init__(self, "program", worker)
        self.worker = fixed(worker)


class Alone(Denial):
    """The manner is kept, but no worker tells it."""

    def __init__(self):
        Denial.__init__(self, "alone")


def tells_all(worker, family):
    """Whether the worker, of as many places, tells each member of the family."""
    return all([worker.over(member.things) == member for member in family.members])


def known_of_all(family, manner):
    """The first worker of blind, one or two that tells each member; None without one."""
    for worker in all_known(family.places, manner):
        if tells_all(worker, family):
            return worker
    return None


def form_of_all(family, manner):
    """The first form of rank, either, least or ends that tells each member; None without one."""
    # Unlike forms tell unlike functions over two things or more: so the greatest world leaves one at most.
    form = form_of(family.members[-1], manner)
    return form if form is not None and tells_all(form, family) else None


def worker_of(family, manner):
    """The first worker of the manner that tells each member of the family; None without one."""
    if manner in KNOWN_THINGS:
        return known_of_all(family, manner)
    if manner in FORM_MANNERS:
        return form_of_all(family, manner)
    return blocks_of_all(family.members) if manner == "alike" else ranks_of(family)


def paper_of(family, manner):
    """The paper of which worker tells each member of the family, or where it parts from a lead, or that it is alone."""
    worker = worker_of(family, manner)
    if worker is not None:
        return Program(worker)
    paper = family_kept(family, manner)
    return Alone() if paper else paper


def what(told, manner):
    """The Program of the first worker that tells the function; or a Parting; or the Alone."""
    demand_told_manner(told, manner)
    return paper_of(Family([told]), manner)


def family_what(family, manner):
    """The Program of the first worker that tells each member of the family; or a Parting; or the Alone."""
    demand_family_manner(family, manner)
    return paper_of(family, manner)


def demand_keeping(manner, things, places):
    """A manner, and a world and places for which it can be asked which told functions keep it."""
    demand_manner(manner, "manner")
    demand_world(things, "things")
    demand_many_places(places)
    demand_two(manner, (things,))
    demand_few_values(things, places)


def many_kept(manner, things, places):
    """How many told functions of so many places over a world of so many things keep the manner."""
    demand_keeping(manner, things, places)
    return many_keeping(manner, things, places)


def kept_all(manner, things, places):
    """The tuple of all told functions that keep the manner, by their values ascending."""
    demand_keeping(manner, things, places)
    if many_keeping(manner, things, places) > MOST_KEPT:
        raise TooMany("functions", MOST_KEPT)
    return tuple([Told(things, places, tells) for tells in sorted(all_keeping(manner, things, places))])
