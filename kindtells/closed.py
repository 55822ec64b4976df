"""Closed told manners: all leads that come of some leads of one world to itself."""

from kindtells.errors import BadLead, Misfit
from kindtells.leads import Lead

# Told manners are asked over these worlds.
TOLD_WORLDS = (2, 3)


def demand_leads(value, part):
    """A list of one lead or more."""
    if not isinstance(value, (list, tuple)) or len(value) == 0 or not all([type(lead) is Lead for lead in value]):
        raise BadLead(part)


def demand_one_world(leads):
    """Leads from one world, of two or three things, to itself."""
    things = leads[0].begin
    if things not in TOLD_WORLDS or any([lead.begin != things or lead.into != things for lead in leads]):
        raise Misfit("things")


def demand_told_manner(leads):
    """A told manner."""
    demand_leads(leads, "leads")
    demand_one_world(leads)


def unlike_rows(leads):
    """The list of the rows of these leads, each once, ascending."""
    return sorted({lead.row for lead in leads})


def leads_by(rows, things):
    """The tuple of the leads with these rows, from a world of so many things to itself."""
    return tuple([Lead(things, row) for row in rows])


def closed_rows(rows, things):
    """The list of the rows of all leads that come of those with these rows, and of the idle one, ascending."""
    first = tuple(range(things))
    found = {first: True}
    new = [first]
    while new:
        row = new.pop()
        for other in rows:
            behind = tuple([other[thing] for thing in row])
            if behind not in found:
                found[behind] = True
                new.append(behind)
    return sorted(found)


def closed(leads):
    """The tuple of all leads that come of these, one behind another, and of the idle one."""
    demand_told_manner(leads)
    things = leads[0].into
    return leads_by(closed_rows(unlike_rows(leads), things), things)
