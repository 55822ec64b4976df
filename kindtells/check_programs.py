"""Which papers show what program tells a told function or a family, where it parts, or that it is alone."""

from kindtells.along import Parting, demand_told_manner
from kindtells.blocks import Blocks
from kindtells.check_families import shows_family_kept
from kindtells.families import Family, demand_family_manner, family_kept
from kindtells.forms import FORM_MANNERS, Form
from kindtells.places import KNOWN_THINGS
from kindtells.programs import Alone, Program, tells_all, worker_of
from kindtells.ranks import Ranks
from kindtells.workers import Place, Thing


def is_worker_of(value, manner):
    """Whether it is a worker of the manner."""
    if type(value) is Place:
        return manner in KNOWN_THINGS
    if type(value) is Thing:
        return value.thing < KNOWN_THINGS.get(manner, 0)
    if type(value) is Form:
        return manner in FORM_MANNERS and value.is_of(manner)
    return (type(value) is Blocks and manner == "alike") or (type(value) is Ranks and manner == "order")


def shows_paper(family, manner, value):
    """Whether the value is a right paper of what tells each member of the family."""
    if type(value) is Program:
        worker = value.worker
        return is_worker_of(worker, manner) and worker.places == family.places and tells_all(worker, family)
    if type(value) is Alone:
        return bool(family_kept(family, manner)) and worker_of(family, manner) is None
    return type(value) is Parting and shows_family_kept(family, manner, value)


def shows_what(told, manner, value):
    """Whether the value is a right paper of what tells the function."""
    demand_told_manner(told, manner)
    return shows_paper(Family([told]), manner, value)


def shows_family_what(family, manner, value):
    """Whether the value is a right paper of what tells each member of the family."""
    demand_family_manner(family, manner)
    return shows_paper(family, manner, value)
