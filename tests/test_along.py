"""With which leads told functions go along, which manners they keep, and the papers of it."""

import itertools
import random
import time
import unittest
import unittest.mock

from kindtells.along import Kept, Parting, kept, keeps, parting_row
from kindtells.check_along import shows_kept
from kindtells.errors import BadLead, BadManner, BadTold, Misfit
from kindtells.leads import Lead, idle
from kindtells.manners import MANNERS, is_of, leads
from kindtells.papers import Denial, Paper
from kindtells.told import Told, inputs
from tests.helpers import NOT_INTEGERS, Case, Odd
from tests.test_manners import NO_MANNERS
from tests.test_told import some_told

NOT_TOLD = NOT_INTEGERS + (0, 3, "2 1 : 0 1", (2, 1, (0, 1)), Told, Lead(1, [0]))


def all_told(things, places):
    many = things ** places
    return [Told(things, places, tells) for tells in itertools.product(range(things), repeat=many)]


def manners(things):
    """The manners that can be asked over so many things."""
    return [manner for manner in MANNERS if manner != "two" or things > 1]


def plain_parting(told, lead):
    """All inputs at which it parts, in their order."""
    return [row for row in inputs(told.things, told.places)
            if told.at([lead.row[thing] for thing in row]) != lead.row[told.at(row)]]


def plainly_keeps(told, manner):
    return not any(plain_parting(told, lead) for lead in leads(manner, told.things, told.things))


def bent(told, lead):
    """Right and wrong papers for a lead and all inputs."""
    return [Parting(lead, row) for row in inputs(told.things, told.places)]


class Partings(Case):
    def test_first_input(self):
        for things, places in ((1, 1), (1, 4), (2, 1), (2, 2), (2, 4), (3, 1), (3, 2), (4, 2), (5, 1)):
            for told in some_told(things, places):
                for lead in leads("blind", things, things)[::1 if things < 4 else 7]:
                    plain = plain_parting(told, lead)
                    self.assertEqual(repr(parting_row(told, lead)), repr(plain[0] if plain else None))
        self.assertEqual(parting_row(lead=Lead(2, [1, 1]), told=Told(2, 1, [0, 0])), (0,))

    def test_all_along_with_the_idle_lead(self):
        for things, places in ((1, 4), (2, 3), (3, 3), (4, 4), (5, 3)):
            for told in some_told(things, places):
                self.assertIsNone(parting_row(told, idle(things)))

    def test_places_and_single_things(self):
        for things in (2, 3, 4):
            place = Told(things, 2, [row[1] for row in inputs(things, 2)])
            for lead in leads("blind", things, things):
                self.assertIsNone(parting_row(place, lead))
                for thing in range(things):
                    row = parting_row(Told(things, 2, [thing] * things ** 2), lead)
                    self.assertEqual(row, None if lead.row[thing] == thing else (0, 0))

    def test_wrong(self):
        told = Told(2, 1, [0, 1])
        for value in NOT_TOLD:
            self.raises(BadTold("told"), parting_row, value, idle(2))
            self.raises(BadTold("told"), parting_row, value, None)
        for value in NOT_INTEGERS + (1, "0 1 : 2", (0, 1), told, Lead):
            self.raises(BadLead("lead"), parting_row, told, value)
        for lead in (idle(1), idle(3), Lead(3, [0, 1]), Lead(2, [0, 1, 1]), Lead(1, [0, 0]), Lead(2, [0])):
            self.raises(Misfit("things"), parting_row, told, lead)


class Keeping(Case):
    def test_all_over_small_worlds(self):
        """What is kept is held against a plain count over all leads."""
        for things, places in ((1, 1), (1, 4), (2, 1), (2, 2), (2, 3), (3, 1), (4, 1)):
            for told in all_told(things, places):
                for manner in manners(things):
                    self.hold_kept(told, manner)

    def test_some_over_greater_worlds(self):
        chance = random.Random(3)
        for things, places in ((2, 4), (3, 2), (3, 3), (4, 2), (5, 1), (5, 2)):
            found = some_told(things, places)
            for _ in range(6):
                found.append(Told(things, places, [chance.randrange(things) for _ in range(things ** places)]))
            for told in found:
                for manner in manners(things):
                    self.hold_kept(told, manner)

    def hold_kept(self, told, manner):
        plain = plainly_keeps(told, manner)
        paper = kept(told, manner)
        self.assertIs(keeps(told, manner), plain)
        self.assertIs(bool(paper), plain)
        self.assertTrue(paper == kept(told, manner))
        if plain:
            self.assertIs(type(paper), Kept)
        else:
            self.assertIs(type(paper), Parting)
            self.assertTrue(is_of(paper.lead, manner))
            self.assertEqual([paper.lead.begin, paper.lead.into], [told.things, told.things])
            self.assertIn(paper.row, plain_parting(told, paper.lead))
        self.assertIs(shows_kept(told, manner, paper), True)
        self.assertIs(shows_kept(told, manner, Kept()), plain)

    def test_how_many_keep(self):
        """The counts that the document tells of workers, over worlds where told functions can be counted."""
        for things, places, counts in (
                (2, 1, {"blind": 1, "one": 2, "rank": 1, "either": 1, "least": 2, "ends": 4, "two": 4, "alike": 2}),
                (2, 2, {"blind": 2, "one": 8, "rank": 4, "either": 2, "least": 8, "ends": 16, "two": 16, "alike": 4}),
                (2, 3, {"blind": 8, "one": 128, "rank": 64, "either": 8, "least": 128, "two": 256, "alike": 16}),
                (3, 1, {"blind": 1, "one": 2, "rank": 1, "either": 1, "least": 2, "ends": 3, "two": 3, "alike": 1}),
                (4, 1, {"blind": 1, "one": 2, "rank": 1, "least": 2, "ends": 3, "two": 3, "alike": 1}),
                (5, 1, {"blind": 1, "one": 2, "rank": 1, "least": 2, "ends": 3, "two": 3, "alike": 1})):
            found = all_told(things, places)
            for manner, count in counts.items():
                many = len([told for told in found if keeps(told, manner)])
                self.assertEqual([things, places, manner, many], [things, places, manner, count])
        self.assertEqual([keeps(told, "order") for told in all_told(3, 1)], [True] * 27)

    def test_over_one_thing_all_is_kept(self):
        for places in (1, 2, 3, 4):
            for manner in manners(1):
                self.assertEqual(kept(Told(1, places, [0]), manner), Kept())

    def test_four_places_over_four_things(self):
        for tells in (lambda row: row[2], min, max, lambda row: sorted(row)[1], lambda row: 0):
            told = Told(4, 4, [tells(row) for row in inputs(4, 4)])
            for manner in MANNERS:
                paper = kept(told, manner)
                self.assertIs(shows_kept(told, manner, paper), True)
                self.assertIs(keeps(told, manner), bool(paper))
        self.assertEqual(
            [keeps(Told(4, 4, [sorted(row)[1] for row in inputs(4, 4)]), manner) for manner in MANNERS],
            [False, True, False, True, True, False, False, False, True])

    def test_names(self):
        told = Told(2, 1, [0, 1])
        self.assertIs(keeps(manner="rank", told=told), True)
        self.assertEqual(kept(manner="rank", told=told), Kept())
        self.assertIs(shows_kept(value=Kept(), manner="rank", told=told), True)

    def test_wrong(self):
        calls = (keeps, kept, lambda told, manner: shows_kept(told, manner, None))
        for call in calls:
            for value in NOT_TOLD:
                self.raises(BadTold("told"), call, value, "blind")
                self.raises(BadTold("told"), call, value, "?")
            for manner in NO_MANNERS:
                self.raises(BadManner("manner"), call, Told(1, 1, [0]), manner)
            self.raises(Misfit("things"), call, Told(1, 1, [0]), "two")
            self.raises(Misfit("things"), call, Told(1, 4, [0]), "two")


class BentParting(Parting):
    """A class of papers of its own: what it makes is no Parting."""


class Papers(Case):
    left = Told(3, 2, [0, 2, 1, 2, 1, 0, 1, 0, 2])
    put = Lead(3, [0, 0, 2])

    def test_all_leads_and_inputs(self):
        """For each lead and input it is plain whether a Parting of them is right."""
        for told in (self.left, Told(3, 1, [1, 1, 0]), Told(2, 2, [0, 0, 0, 1]), Told(2, 3, [0, 0, 1, 0, 1, 1, 0, 1])):
            for manner in MANNERS:
                for lead in leads("blind", told.things, told.things):
                    plain = plain_parting(told, lead) if is_of(lead, manner) else []
                    for paper in bent(told, lead):
                        self.assertIs(shows_kept(told, manner, paper), paper.row in plain)

    def test_bent_rows(self):
        self.assertIs(shows_kept(self.left, "blind", Parting(self.put, [0, 1])), True)
        for row in NOT_INTEGERS + (
                0, 1, (0,), (0, 1, 0), (0, 1, 1), (0, True), (False, 1), (0, 3), (0, -1), (0, -2), (0, None), (0, "1"),
                (0, 1.0), ((0, 1),), ((0,), (1,)), "01", b"\0\1", (0, 10 ** 59), {0: 0, 1: 1}, range(2)):
            self.assertIs(shows_kept(self.left, "blind", Parting(self.put, row)), False, row)

    def test_bent_leads(self):
        for lead in NOT_INTEGERS + (
                0, 1, (0, 0, 2), "0 0 2 : 3", Lead(3, [0, 0]), Lead(2, [0, 0, 1]), Lead(4, [0, 0, 2]),
                Lead(4, [0, 0, 2, 2]), Lead(3, [0, 0, 2, 2]), Lead(2, [0, 0]), Lead(1, [0, 0, 0]), Lead(3, [0]), Lead,
                self.left, (self.put,)):
            self.assertIs(shows_kept(self.left, "blind", Parting(lead, (0, 1))), False, lead)
            self.assertIs(shows_kept(self.left, "two", Parting(lead, (0, 1))), False, lead)

    def test_leads_of_other_manners(self):
        shown = [shows_kept(self.left, manner, Parting(self.put, (0, 1))) for manner in MANNERS]
        self.assertEqual(shown, [True, True, True, True, True, True, False, False, False])

    def test_other_papers_and_any_values(self):
        right = (self.put, (0, 1))
        for value in NOT_INTEGERS + (
                0, 1, right, Paper("parting", *right), Denial("parting", *right), Paper("kept"), Denial("kept"), Kept,
                Parting, BentParting(*right), "kept", ("parting", right), self.put, self.left, Odd()):
            self.assertIs(shows_kept(self.left, "blind", value), False, value)
        for value in (None, True, 1, Paper("kept"), Denial("kept"), "kept", Kept, (), Parting(self.put, (0, 1))):
            self.assertIs(shows_kept(self.left, "alike", value), False, value)

    def test_parting_where_all_is_kept(self):
        told = Told(3, 2, [row[0] for row in inputs(3, 2)])
        for lead in leads("blind", 3, 3):
            for paper in bent(told, lead):
                self.assertIs(shows_kept(told, "blind", paper), False)


class ManyPapers(Case):
    """Readers check papers by the ten thousand: of a Parting its own lead and its own input alone are asked."""

    tells = (
        (3, 2, (0, 0, 0, 0, 1, 1, 0, 1, 2)), (3, 2, (0, 1, 2) * 3), (3, 2, (0, 2, 1, 2, 1, 0, 1, 0, 2)), (3, 1, (1, 2, 0)),
        (2, 2, (0, 1, 1, 0)), (2, 3, (0, 0, 0, 1, 0, 1, 1, 1)))

    def hold_all_papers(self, told):
        for manner in MANNERS:
            for lead in leads("blind", told.things, told.things):
                plain = plain_parting(told, lead) if is_of(lead, manner) else []
                for paper in bent(told, lead):
                    self.assertIs(shows_kept(told, manner, paper), paper.row in plain)

    def test_without_finding_out_what_is_kept(self):
        with unittest.mock.patch("kindtells.check_along.keeps", side_effect=AssertionError("not asked of a Parting")):
            for things, places, tells in self.tells:
                self.hold_all_papers(Told(things, places, tells))
            for value in (None, 1, "kept", Paper("kept"), Kept, BentParting(Lead(2, [1, 0]), (0, 1))):
                self.assertIs(shows_kept(Told(2, 1, [0, 1]), "blind", value), False)
            self.raises(BadTold("told"), shows_kept, None, "?", Parting(idle(2), (0,)))
            self.raises(BadManner("manner"), shows_kept, Told(1, 1, [0]), "?", Parting(idle(2), (0,)))
            self.raises(Misfit("things"), shows_kept, Told(1, 1, [0]), "two", Parting(idle(1), (0,)))

    def test_great_functions_in_a_short_time(self):
        """As many papers take a part of a second; with what is kept found out for each they would take minutes."""
        told = Told(4, 4, [row[1] for row in inputs(4, 4)])
        bars = Told(4, 4, [(row[1] + row[2]) % 4 for row in inputs(4, 4)])
        papers = [paper for lead in leads("blind", 4, 4)[::4] for paper in bent(told, lead)[::16]]
        start = time.perf_counter()
        for manner in MANNERS:
            for paper in papers:
                self.assertIs(shows_kept(told, manner, paper), False)
        found = sum(shows_kept(bars, manner, paper) for manner in MANNERS for paper in papers)
        self.assertLess(time.perf_counter() - start, 10)
        self.assertGreater(found, 0)


if __name__ == "__main__":
    unittest.main()
