"""Closed told manners, held against a plain count over all leads."""

import itertools
import random
import unittest

from kindtells.closed import closed
from kindtells.errors import BadLead, Misfit
from kindtells.leads import Lead, idle
from kindtells.manners import MANNERS, few_leads, leads
from tests.helpers import NOT_INTEGERS, Alike, Case, Odd
from tests.test_told import Told

NOT_LEADS = NOT_INTEGERS + (0, 1, "0 1 : 2", (0, 1), Told(2, 1, [0, 1]), Lead, Lead(2, [0, 1]))
# Lists that are no told manners, as they are no lists of leads.
NO_TOLD_MANNERS = NOT_LEADS + (
    [None], [0], [True], ["0 1 : 2"], [[Lead(2, [0, 1])]], (Lead(2, [0, 1]), None), [Lead(2, [0, 1]), Alike()], [Lead],
    {Lead(1, [0]).row: 1}, [Told(2, 1, [0, 1])], [Odd()], ((0, 1), (1, 0)), [Lead(3, [0, 1]), (0, 1)], "ab")
# Lists of leads that are none of one world of two or three things to itself.
MISFITS = (
    [Lead(1, [0])], [idle(4)], [idle(5)], [Lead(3, [0, 1])], [Lead(2, [0, 0, 1])], [idle(2), idle(3)], [idle(3), idle(2)],
    (idle(2), Lead(3, [0, 1])), [Lead(3, [0, 1]), idle(2)], [Lead(3, [0, 1]), idle(3)], [idle(3), idle(3), Lead(2, [0] * 3)],
    [Lead(1, [0, 0])], [Lead(5, [0, 1, 2])], [idle(2)] * 9 + [idle(1)], [Lead(2, [0])])


def all_rows(things):
    return list(itertools.product(range(things), repeat=things))


def plainly_closed(rows, things):
    """Everything that comes of some rows, one behind another, and the idle one."""
    found = set(rows) | {tuple(range(things))}
    while True:
        more = {tuple(other[thing] for thing in row) for row in found for other in found}
        if more <= found:
            return sorted(found)
        found |= more


def to_leads(rows):
    return [Lead(len(row), row) for row in rows]


class Closed(Case):
    def hold_closed(self, rows, things):
        found = closed(to_leads(rows))
        self.assertIs(type(found), tuple)
        self.assertTrue(all(type(lead) is Lead and lead.into == things for lead in found))
        self.assertEqual([lead.row for lead in found], plainly_closed(rows, things))

    def test_all_over_two_things(self):
        for many in (1, 2, 3, 4):
            for rows in itertools.product(all_rows(2), repeat=many):
                self.hold_closed(rows, 2)

    def test_six_over_two_things(self):
        found = {
            tuple(lead.row for lead in closed(to_leads(rows)))
            for many in (1, 2, 3, 4) for rows in itertools.combinations(all_rows(2), many)}
        stay, low, high, turn = (0, 1), (0, 0), (1, 1), (1, 0)
        self.assertEqual(found, {
            (stay,), (low, stay), (stay, high), (low, stay, high), (stay, turn), (low, stay, turn, high)})

    def test_over_three_things(self):
        chance = random.Random(51)
        for many in (1, 2):
            for rows in itertools.combinations(all_rows(3), many):
                self.hold_closed(rows, 3)
        for _ in range(60):
            self.hold_closed([chance.choice(all_rows(3)) for _ in range(chance.randrange(3, 9))], 3)
        self.hold_closed(all_rows(3), 3)

    def test_leads_of_manners_are_closed(self):
        for things, manner in itertools.product((2, 3), MANNERS):
            told = leads(manner, things, things)
            self.assertEqual(closed(told), told)
            if manner != "order" and few_leads(manner, things):
                self.assertEqual(closed(few_leads(manner, things)), told)
            self.assertEqual(closed([idle(things)]), (idle(things),))

    def test_told_twice_and_in_any_order(self):
        low, turn = Lead(2, [0, 0]), Lead(2, [1, 0])
        self.all_equal([
            closed([low, turn]), closed((turn, low)), closed([low, low, turn, low]), closed(leads=[turn, turn, low])])
        about = Lead(3, [1, 2, 0])
        self.assertEqual(closed([about] * 300), closed([about]))

    def test_wrong(self):
        for value in NO_TOLD_MANNERS:
            self.raises(BadLead("leads"), closed, value)
        for value in MISFITS:
            self.raises(Misfit("things"), closed, value)
            self.raises(Misfit("things"), closed, tuple(value))


if __name__ == "__main__":
    unittest.main()
