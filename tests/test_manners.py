"""Manners: which leads are of them, how many, and the few of which all come."""

import itertools
import unittest

from kindtells.errors import BadLead, BadManner, BadNumber, Misfit
from kindtells.leads import Lead, idle
from kindtells.manners import MANNERS, few_leads, is_of, leads, many_leads
from tests.helpers import NOT_INTEGERS, Case, not_within

WORLDS = (1, 2, 3, 4, 5)
NO_MANNERS = NOT_INTEGERS + (0, 1, "Blind", "blind ", "twos", "rank either", ("blind",), ["rank"], MANNERS, b"rank")


def plainly_of(row, into, manner):
    """The manners as the document tells them, all pairs of things held against one another."""
    pairs = list(itertools.combinations(range(len(row)), 2))
    rank = all(row[a] <= row[b] for a, b in pairs)
    falls = all(row[a] >= row[b] for a, b in pairs)
    return {
        "blind": True, "rank": rank, "either": rank or falls, "least": rank and row[0] == 0,
        "ends": rank and row[0] == 0 and row[len(row) - 1] == into - 1, "one": row[0] == 0,
        "two": len(row) > 1 and into > 1 and row[0] == 0 and row[1] == 1,
        "alike": all(row[a] != row[b] for a, b in pairs), "order": all(row[a] < row[b] for a, b in pairs)}[manner]


def refused(manner, *worlds):
    return manner == "two" and 1 in worlds


def closed_rows(few, things):
    """The rows of all that come of some leads, one behind another, and of the idle one."""
    found = {tuple(range(things))}
    new = list(found)
    while new:
        row = new.pop()
        for lead in few:
            led = tuple(lead.row[thing] for thing in row)
            if led not in found:
                found.add(led)
                new.append(led)
    return found


class Of(Case):
    def test_manners(self):
        self.assertEqual(repr(MANNERS), repr((
            "blind", "rank", "either", "least", "ends", "one", "two", "alike", "order")))

    def test_leads_are_those_of_the_manner(self):
        for manner, begin, into in itertools.product(MANNERS, WORLDS, WORLDS):
            if refused(manner, begin, into):
                continue
            plain = [row for row in itertools.product(range(into), repeat=begin) if plainly_of(row, into, manner)]
            told = leads(manner, begin, into)
            self.assertIs(type(told), tuple)
            self.assertEqual([lead.row for lead in told], plain)
            self.assertTrue(all(type(lead) is Lead and lead.into == into for lead in told))
            self.assertEqual(many_leads(manner, begin, into), len(plain))

    def test_is_of(self):
        for begin, into in itertools.product((1, 2, 3, 4), repeat=2):
            for row in itertools.product(range(into), repeat=begin):
                for manner in MANNERS:
                    if not refused(manner, begin, into):
                        self.assertIs(is_of(Lead(into, row), manner), plainly_of(row, into, manner))

    def test_either_from_two_to_four(self):
        rows = [lead.row for lead in leads("either", 2, 4)]
        self.assertEqual(len(rows), 16)
        self.assertEqual(len([row for row in rows if row[0] <= row[1]]), 10)
        self.assertEqual(len([row for row in rows if row[0] >= row[1]]), 10)

    def test_greatest_worlds(self):
        self.assertEqual([many_leads(manner, 5, 5) for manner in MANNERS], [3125, 126, 247, 70, 35, 625, 125, 120, 1])
        self.assertEqual([many_leads(manner, 5, 1) for manner in MANNERS if manner != "two"], [1, 1, 1, 1, 1, 1, 0, 0])
        self.assertEqual([many_leads(manner, 1, 5) for manner in MANNERS if manner != "two"], [5, 5, 5, 1, 0, 1, 5, 5])

    def test_which_leads_are_others(self):
        below = {
            "rank": "either", "least": "rank", "ends": "least", "two": "one", "order": "alike", "either": "blind"}
        for begin, into in itertools.product(WORLDS[1:], repeat=2):
            for lesser, greater in below.items():
                rows = {lead.row for lead in leads(greater, begin, into)}
                self.assertTrue(rows >= {lead.row for lead in leads(lesser, begin, into)})
            ranks = {lead.row for lead in leads("rank", begin, into)}
            self.assertTrue(ranks >= {lead.row for lead in leads("order", begin, into)})

    def test_names(self):
        self.assertIs(is_of(lead=idle(2), manner="two"), True)
        self.assertEqual([many_leads(manner="two", begin=2, into=3), len(leads(into=3, begin=2, manner="two"))], [1, 1])
        self.assertEqual(len(few_leads(things=2, manner="rank")), 2)


class Few(Case):
    def test_all_leads_come_of_the_few(self):
        for manner, things in itertools.product(MANNERS, WORLDS):
            if refused(manner, things):
                continue
            few = few_leads(manner, things)
            self.assertIs(type(few), tuple)
            rows = [lead.row for lead in few]
            self.assertEqual(rows, sorted(set(rows)))
            self.assertNotIn(tuple(range(things)), rows)
            self.assertTrue(all(is_of(lead, manner) and lead.into == things for lead in few))
            self.assertEqual(closed_rows(few, things), {lead.row for lead in leads(manner, things, things)})

    def test_the_few_as_told(self):
        five = {
            "blind": ["00234", "01134", "01224", "01233", "01243", "01324", "02134", "10234"],
            "rank": ["00234", "01134", "01224", "01233", "01244", "01334", "02234", "11234"],
            "least": ["00234", "01134", "01224", "01233", "01244", "01334", "02234"],
            "ends": ["00234", "01134", "01224", "01244", "01334", "02234"],
            "one": ["00234", "01134", "01224", "01233", "01243", "01324", "02134"],
            "two": ["01034", "01134", "01224", "01233", "01243", "01324"],
            "alike": ["01243", "01324", "02134", "10234"], "order": []}
        five["either"] = sorted(five["rank"] + ["43210"])
        for manner in MANNERS:
            self.assertEqual(["".join(map(str, lead.row)) for lead in few_leads(manner, 5)], five[manner])

    def test_over_two_things(self):
        two = {
            "blind": [(0, 0), (1, 0)], "rank": [(0, 0), (1, 1)], "either": [(0, 0), (1, 0), (1, 1)],
            "least": [(0, 0)], "ends": [], "one": [(0, 0)], "two": [], "alike": [(1, 0)], "order": []}
        for manner in MANNERS:
            self.assertEqual([lead.row for lead in few_leads(manner, 2)], two[manner])

    def test_over_one_thing_there_are_none(self):
        for manner in MANNERS:
            if manner != "two":
                self.assertEqual(few_leads(manner, 1), ())


class Wrong(Case):
    def test_is_of(self):
        for lead in NOT_INTEGERS + (0, "0 : 1", (0,), Lead):
            self.raises(BadLead("lead"), is_of, lead, "blind")
            self.raises(BadLead("lead"), is_of, lead, None)
        for manner in NO_MANNERS:
            self.raises(BadManner("manner"), is_of, idle(1), manner)
        for lead in (idle(1), Lead(3, [0]), Lead(1, [0, 0])):
            self.raises(Misfit("things"), is_of, lead, "two")

    def test_leads_and_how_many(self):
        for call in (leads, many_leads):
            for manner in NO_MANNERS:
                self.raises(BadManner("manner"), call, manner, 0, 0)
            for number in not_within(1, 5):
                self.raises(BadNumber("begin"), call, "two", number, number)
                self.raises(BadNumber("begin"), call, "blind", number, 1)
                self.raises(BadNumber("into"), call, "two", 1, number)
            for begin, into in ((1, 1), (1, 5), (5, 1)):
                self.raises(Misfit("things"), call, "two", begin, into)

    def test_few_leads(self):
        for manner in NO_MANNERS:
            self.raises(BadManner("manner"), few_leads, manner, None)
        for number in not_within(1, 5):
            for manner in MANNERS:
                self.raises(BadNumber("things"), few_leads, manner, number)
        self.raises(Misfit("things"), few_leads, "two", 1)


if __name__ == "__main__":
    unittest.main()
