"""Told manners: their functions, the leads of these, what they tell, and which have the same functions; all held
against a plain count over all leads and all told functions."""

import functools
import itertools
import random
import time
import unittest

from kindtells.agreed import Same, Unlike, compared_manners, functions_along, leads_along, many_along, manner_of
from kindtells.along import keeps
from kindtells.closed import closed
from kindtells.errors import BadLead, BadNumber, BadTold, Misfit, TooMany
from kindtells.leads import Lead, idle
from kindtells.manners import MANNERS, leads
from kindtells.papers import Denial, Paper
from kindtells.told import Told, inputs
from kindtells.workers import Place
from tests.helpers import NOT_INTEGERS, Alike, Case, not_within
from tests.test_along import NOT_TOLD, all_told
from tests.test_closed import MISFITS, NO_TOLD_MANNERS, all_rows, plainly_closed, to_leads
from tests.test_told import some_told

LEFT = Told(3, 2, [0, 2, 1, 2, 1, 0, 1, 0, 2])


@functools.lru_cache(None)
def all_tells(things, places):
    return list(itertools.product(range(things), repeat=things ** places))


@functools.lru_cache(None)
def going(row, places):
    """Which of all told functions go along with the lead of this row: a 1 for each of these in a number's bits."""
    things = len(row)
    rows = list(itertools.product(range(things), repeat=places))
    led = [rows.index(tuple(row[thing] for thing in asked)) for asked in rows]
    found = 0
    for at, tells in enumerate(all_tells(things, places)):
        if all(tells[index] == row[value] for index, value in zip(led, tells)):
            found |= 1 << at
    return found


def going_all(rows, places):
    found = -1
    for row in rows:
        found &= going(row, places)
    return found


def plain_functions(rows, places):
    found = going_all(rows, places)
    return [tells for at, tells in enumerate(all_tells(len(rows[0]), places)) if found >> at & 1]


def plainly_told(rows):
    """The rows of all leads with which all functions of one place and of two go along."""
    both = [going_all(rows, places) for places in (1, 2)]
    return [
        row for row in all_rows(len(rows[0]))
        if all(found & ~going(row, places) == 0 for found, places in zip(both, (1, 2)))]


def some_manners():
    """Rows of told manners over both worlds: all over two things, those of one or two leads and some over three."""
    chance = random.Random(52)
    found = [rows for many in (1, 2, 3, 4) for rows in itertools.combinations(all_rows(2), many)]
    found += list(itertools.combinations(all_rows(3), 1)) + list(itertools.combinations(all_rows(3), 2))[::3]
    found += [tuple(chance.sample(all_rows(3), chance.randrange(3, 8))) for _ in range(60)]
    return found + [tuple(lead.row for lead in leads(manner, 3, 3)) for manner in MANNERS]


class Functions(Case):
    def test_against_all_told_functions(self):
        for rows in some_manners():
            for places in (1, 2):
                plain = plain_functions(rows, places)
                self.assertEqual(many_along(to_leads(rows), places), len(plain))
                if len(plain) > 500:
                    self.raises(TooMany("functions", 500), functions_along, to_leads(rows), places)
                else:
                    found = functions_along(to_leads(rows), places)
                    self.assertIs(type(found), tuple)
                    self.assertEqual([told.tells for told in found], plain)
                    self.assertTrue(all(type(told) is Told and told.things == len(rows[0]) for told in found))
                    self.assertTrue(all(told.places == places for told in found))

    def test_numbers_that_are_told(self):
        self.assertEqual([many_along([idle(things)], places) for things in (2, 3) for places in (1, 2)], [4, 16, 27, 19683])
        for manner, counts in (("rank", (4, 4)), ("alike", (4, 3)), ("blind", (2, 2)), ("one", (8, 3)), ("two", (16, 6))):
            self.assertEqual([many_along(leads(manner, things, things), 2) for things in (2, 3)], list(counts))
        for manner, things in itertools.product(MANNERS, (2, 3)):
            for places in (1, 2):
                told = all_told(things, places) if things * places < 6 else []
                kept = [each for each in told if keeps(each, manner)]
                if told:
                    self.assertEqual(list(functions_along(leads(manner, things, things), places)), kept)

    def test_just_below_and_above_500(self):
        """How many can be told at most, over all told manners of one lead or two."""
        counts = {}
        for many in (1, 2):
            for rows in itertools.combinations(all_rows(3), many):
                counts[many_along(to_leads(rows), 2)] = rows
        for count, rows in counts.items():
            if count <= 500:
                self.assertEqual(len(functions_along(to_leads(rows), 2)), count)
            else:
                self.raises(TooMany("functions", 500), functions_along, to_leads(rows), 2)
        self.assertTrue(any(count > 500 for count in counts) and any(81 <= count <= 500 for count in counts), counts)

    def test_names_and_leads_told_twice(self):
        turn = Lead(2, [1, 0])
        self.assertEqual(functions_along(places=1, leads=[turn, turn, idle(2)]), functions_along((turn,), 1))
        self.assertEqual(many_along(places=2, leads=[turn] * 400), 4)

    def test_wrong(self):
        for call in (functions_along, many_along):
            for value in NO_TOLD_MANNERS:
                self.raises(BadLead("leads"), call, value, 0)
                self.raises(BadLead("leads"), call, value, 1)
            for number in not_within(1, 2):
                self.raises(BadNumber("places"), call, [idle(3)], number)
                self.raises(BadNumber("places"), call, [idle(2), idle(3)], number)
                self.raises(BadNumber("places"), call, [Lead(3, [0, 1])], number)
            for value in MISFITS:
                self.raises(Misfit("things"), call, value, 1)
                self.raises(Misfit("things"), call, value, 2)

    def test_is_not_slow(self):
        begin = time.process_time()
        for lead in leads("blind", 3, 3):
            self.assertEqual(many_along([lead], 2), len(plain_functions([lead.row], 2)))
        for _ in range(40):
            self.assertEqual(many_along([idle(3)], 2), 19683)
        self.assertLess(time.process_time() - begin, 5)


class Leads(Case):
    def hold_leads(self, functions):
        found = leads_along(functions)
        self.assertIs(type(found), tuple)
        self.assertTrue(all(type(lead) is Lead and lead.into == functions[0].things for lead in found))
        plain = []
        for row in all_rows(functions[0].things):
            if all(told.at([row[thing] for thing in asked]) == row[told.at(asked)]
                   for told in functions for asked in inputs(told.things, told.places)):
                plain.append(row)
        self.assertEqual([lead.row for lead in found], plain)

    def test_of_one(self):
        for told in all_told(2, 1) + all_told(2, 2) + all_told(2, 3)[::7] + all_told(3, 1) + all_told(3, 2)[::311]:
            self.hold_leads([told])

    def test_of_several_of_any_places(self):
        chance = random.Random(53)
        for things in (2, 3):
            found = [told for places in (1, 2, 3, 4) for told in some_told(things, places)]
            for _ in range(25):
                self.hold_leads([chance.choice(found) for _ in range(chance.randrange(1, 4))])
            self.hold_leads(tuple(found))

    def test_of_functions_along(self):
        """What functions of leads go along with is all that comes of these leads, and perhaps more."""
        for rows in some_manners()[::5]:
            if many_along(to_leads(rows), 2) <= 500:
                functions = functions_along(to_leads(rows), 1) + functions_along(to_leads(rows), 2)
                found = leads_along(list(functions) * 2)
                self.assertEqual([lead.row for lead in found], plainly_told(rows))
                self.assertTrue({lead.row for lead in found} >= set(plainly_closed(rows, len(rows[0]))))

    def test_wrong(self):
        told, other = Told(2, 1, [0, 1]), Told(3, 1, [0, 1, 2])
        for value in NOT_TOLD + (told, [None], (told, None), [told, [told]], [Told], [told, Lead(2, [0, 1])], [Alike()],
                                 {told.tells: told}, [told.tells], ((2, 1, (0, 1)),)):
            self.raises(BadTold("functions"), leads_along, value)
        for value in ([told, other], (other, told), [Told(1, 1, [0])], [Told(4, 1, [0] * 4)], [told, Told(1, 1, [0])],
                      [Told(5, 1, [0] * 5), told], [told] * 5 + [Told(3, 2, [0] * 9)]):
            self.raises(Misfit("things"), leads_along, value)
        self.assertEqual(leads_along(functions=[told]), leads("blind", 2, 2))


class Tells(Case):
    def test_against_all_functions_and_leads(self):
        for rows in some_manners():
            found = manner_of(to_leads(rows))
            self.assertEqual([type(found), [lead.row for lead in found]], [tuple, plainly_told(rows)])

    def test_what_is_told_tells_itself(self):
        for rows in some_manners()[::3]:
            found = manner_of(to_leads(rows))
            self.assertEqual([closed(found), manner_of(found)], [found, found])
            self.assertEqual(manner_of(closed(to_leads(rows))), found)

    def test_over_two_things_each_closed_one_tells_itself(self):
        for many in (1, 2, 3, 4):
            for rows in itertools.combinations(all_rows(2), many):
                self.assertEqual(manner_of(to_leads(rows)), closed(to_leads(rows)))

    def test_manners_over_three_things(self):
        for manner in ("blind", "rank", "least", "ends", "one", "two", "order"):
            self.assertEqual(manner_of(leads(manner, 3, 3)), leads(manner, 3, 3))
        self.assertEqual(manner_of(leads("either", 3, 3)), leads("blind", 3, 3))
        nine = [lead for lead in leads("blind", 3, 3) if len(set(lead.row)) in (1, 3)]
        self.assertEqual(list(manner_of(leads=leads("alike", 3, 3))), nine)

    def test_functions_of_two_places_tell_the_leads_alone(self):
        for rows in some_manners()[::7]:
            found = [row for row in all_rows(len(rows[0])) if going_all(rows, 2) & ~going(row, 2) == 0]
            self.assertEqual([lead.row for lead in manner_of(to_leads(rows))], found)

    def test_wrong(self):
        for value in NO_TOLD_MANNERS:
            self.raises(BadLead("leads"), manner_of, value)
        for value in MISFITS:
            self.raises(Misfit("things"), manner_of, value)


class Compared(Case):
    def hold_compared(self, rows, others):
        paper = compared_manners(to_leads(rows), to_leads(others))
        self.assertEqual(paper, compared_manners(tuple(to_leads(rows)), to_leads(others)))
        same = all(going_all(rows, places) == going_all(others, places) for places in (1, 2))
        self.assertIs(same, plainly_told(rows) == plainly_told(others))
        if same:
            self.assertIs(type(paper), Same)
            return
        self.assertEqual([type(paper), type(paper.told), paper.told.things], [Unlike, Told, len(rows[0])])
        self.assertIn(paper.told.places, (1, 2))
        at = all_tells(paper.told.things, paper.told.places).index(paper.told.tells)
        along = [going_all(each, paper.told.places) >> at & 1 for each in (rows, others)]
        self.assertEqual(sum(along), 1)

    def test_all_over_two_things(self):
        found = [rows for many in (1, 2, 3, 4) for rows in itertools.combinations(all_rows(2), many)]
        for rows, others in itertools.product(found, repeat=2):
            self.hold_compared(rows, others)

    def test_over_three_things(self):
        chance = random.Random(54)
        found = [rows for rows in some_manners() if len(rows[0]) == 3]
        for rows in found[::4]:
            self.hold_compared(rows, chance.choice(found))
            self.hold_compared(rows, plainly_told(rows))
            self.hold_compared(plainly_closed(rows, 3), rows)
            self.hold_compared(rows, rows + (chance.choice(all_rows(3)),))
            self.hold_compared([(0, 1, 2)], rows)
        one = itertools.combinations(all_rows(3), 1)
        for rows, others in itertools.product(list(one), repeat=2):
            self.hold_compared(rows, others)

    def test_manners(self):
        for one, other in itertools.product(MANNERS, repeat=2):
            told = [tuple(lead.row for lead in leads(manner, 3, 3)) for manner in (one, other)]
            self.hold_compared(told[0], told[1])
        self.assertEqual(compared_manners(other=leads("alike", 3, 3), one=leads("blind", 3, 3)), Unlike(LEFT))
        self.assertEqual(compared_manners(leads("either", 3, 3), leads("blind", 3, 3)), Same())

    def test_wrong(self):
        for value in NO_TOLD_MANNERS:
            self.raises(BadLead("one"), compared_manners, value, value)
            self.raises(BadLead("one"), compared_manners, value, [idle(2)])
            self.raises(BadLead("other"), compared_manners, [idle(2)], value)
            self.raises(BadLead("other"), compared_manners, [idle(2), idle(3)], value)
        for value in MISFITS:
            self.raises(Misfit("things"), compared_manners, value, value)
            for things in (2, 3):
                self.raises(Misfit("things"), compared_manners, value, [idle(things)])
                self.raises(Misfit("things"), compared_manners, [idle(things)], value)
        self.raises(Misfit("things"), compared_manners, [idle(2)], [idle(3)])
        self.raises(Misfit("things"), compared_manners, [idle(3)], (idle(2),))

    def test_papers(self):
        self.assertEqual([Same().word, Same().parts, bool(Same())], ["same", (), True])
        for value in NOT_INTEGERS + (LEFT, [1, [2]]):
            paper = Unlike(value)
            self.assertEqual([paper.word, bool(paper), len(paper.parts)], ["unlike", False, 1])
        self.assertEqual([Unlike([1, [2]]).told, Unlike(told=[1]).parts], [(1, (2,)), ((1,),)])
        self.assertEqual([Same.__bases__, Unlike.__bases__], [(Paper,), (Denial,)])
        self.all_unlike([Same(), Unlike(LEFT), Unlike(None), Paper("same"), Denial("unlike", LEFT), Unlike(Place(2, 0))])


if __name__ == "__main__":
    unittest.main()
