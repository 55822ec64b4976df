"""Links between inputs: which values at two inputs go together, if a told function is to go along with some leads.

A lead leads each input to one. There the value is what the value here is led to. So a function goes along with all
leads exactly if each two of its values go together. Inputs stand for themselves by their index."""

from kindtells.rows import led_indices, many_rows


def pulls_by(rows, places):
    """For each two inputs of which a lead with one of these rows leads the one to the other: the rows that do."""
    pulls = {}
    for row in rows:
        for at, led in enumerate(led_indices(row, len(row), places)):
            pulls.setdefault((at, led), []).append(row)
    return pulls


def go_together(pulls, at, value, other, worth):
    """Whether the value at one input and the worth at the other one go together."""
    there = [row[value] == worth for row in pulls.get((at, other), ())]
    return all(there) and all([row[worth] == value for row in pulls.get((other, at), ())])


def suiting(pulls, at, other, things):
    """For each value at the one input the list of those at the other one that go together with it."""
    return [
        [worth for worth in range(things) if go_together(pulls, at, value, other, worth)] for value in range(things)]


class Links:
    """The links of all inputs of so many places by leads of a world to itself, told by their rows."""

    def __init__(self, rows, things, places):
        pulls = pulls_by(rows, places)
        many = range(many_rows(things, places))
        # For each input the values that it may have, as far as it is led to itself.
        self.may_be = {
            at: [value for value in range(things) if go_together(pulls, at, value, at, value)] for at in many}
        # For each input the others to which it is linked; for each value here the values there that go with it.
        self.beside = {at: {} for at in many}
        for at, other in pulls:
            if at != other:
                self.beside[at][other] = suiting(pulls, at, other, things)
                self.beside[other][at] = suiting(pulls, other, at, things)


def narrowed(links, may_be, at, value):
    """What all inputs but this one may be, if this one has the value."""
    suits = links.beside[at]
    return {
        other: [worth for worth in worths if other not in suits or worth in suits[other][value]]
        for other, worths in may_be.items() if other != at}


def first_group(links, may_be):
    """The list of the inputs that are linked with the first of these, straight or by others of them."""
    group = list(may_be)[:1]
    new = list(group)
    while new:
        at = new.pop()
        for other in links.beside[at]:
            if other in may_be and other not in group:
                group.append(other)
                new.append(other)
    return group


def many_ways(links, may_be):
    """How many ways there are to give each of these inputs one of the values that it may be, so that each two go
    together."""
    if not may_be:
        return 1
    group = first_group(links, may_be)
    here = many_ways_of_group(links, {at: may_be[at] for at in group})
    if here == 0:
        return 0
    # What is linked with none of the group goes with each way for the group.
    return here * many_ways(links, {at: worths for at, worths in may_be.items() if at not in group})


def many_ways_of_group(links, may_be):
    """How many ways there are, as many_ways tells, for inputs that are all linked."""
    most_linked = max(may_be, key=lambda at: len(links.beside[at]))
    if len(may_be) == 1:
        return len(may_be[most_linked])
    return sum([many_ways(links, narrowed(links, may_be, most_linked, value)) for value in may_be[most_linked]])


def one_way(links, may_be):
    """The values of one such way, as a list; None without one."""
    if many_ways(links, may_be) == 0:
        return None
    found = []
    left = may_be
    while left:
        at = list(left)[0]
        leaving = [value for value in left[at] if many_ways(links, narrowed(links, left, at, value)) > 0]
        found.append(leaving[0])
        left = narrowed(links, left, at, leaving[0])
    return found


def all_ways(links):
    """The list of all such ways for all inputs, each as the tuple of the values, ascending."""
    ways = [()]
    for at, worths in links.may_be.items():
        ahead = [(other, suits) for other, suits in links.beside[at].items() if other < at]
        ways = [
            way + (value,) for way in ways for value in worths
            if all([way[other] in suits[value] for other, suits in ahead])]
    return ways
