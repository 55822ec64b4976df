"""Papers of what families keep and of what fills them: right ones, bent ones, any values."""

import itertools
import unittest

from kindtells.along import Kept, Parting
from kindtells.check_families import shows_family_kept, shows_filled
from kindtells.errors import BadFamily, BadManner, Misfit
from kindtells.families import Family, family_kept
from kindtells.filling import Filled, Many, NoFill, filled
from kindtells.forms import Form
from kindtells.leads import Lead
from kindtells.manners import MANNERS, is_of, leads
from kindtells.papers import Denial, Paper
from kindtells.told import Told, inputs
from kindtells.workers import Place
from tests.helpers import GREAT, NOT_INTEGERS, Case, Odd
from tests.test_along import NOT_TOLD, manners
from tests.test_families import plain_partings
from tests.test_manners import NO_MANNERS

LEAST = Form(2, [(0, 1)])
LESSER = Family([LEAST.over(2), LEAST.over(3)])
BENT_ROWS = NOT_INTEGERS + (
    0, 1, (0,), (0, 1, 0), (0, True), (False, 1), (0, 5), (0, -1), (-1, 0), (0, None), (0, "1"), (0, 1.0), ((0, 1),),
    ((0,), (1,)), "01", b"01", (0, GREAT), {0: 0, 1: 1}, range(2), [[0, 1]])


class OwnKept(Kept):
    """Classes of their own: what they make is no Kept, no Parting and so on."""


class OwnParting(Parting):
    pass


class OwnFilled(Filled):
    pass


class OwnMany(Many):
    pass


class OwnNoFill(NoFill):
    pass


class FamilyKept(Case):
    def test_all_leads_and_inputs(self):
        """For each lead between worlds and each input it is plain whether a Parting of them is right."""
        for family in (
                LESSER, Family([Told(1, 1, [0]), Told(2, 1, [1, 0])]), Family([Told(2, 1, [1, 1]), Told(3, 1, [1, 1, 2])]),
                Family([Told(1, 2, [0]), Told(3, 2, [0, 2, 1, 2, 1, 0, 1, 0, 2])])):
            for manner in manners(min(family.worlds)):
                right = [(repr(lead.row), lead.into, row) for lead, row in plain_partings(family, manner)]
                for begin, into in itertools.product(family.worlds, repeat=2):
                    for lead in leads("blind", begin, into):
                        for row in inputs(begin, family.places):
                            shown = shows_family_kept(family, manner, Parting(lead, list(row)))
                            self.assertIs(shown, (repr(lead.row), into, row) in right)
                self.assertIs(shows_family_kept(family, manner, Kept()), not right)
                self.assertIs(shows_family_kept(family, manner, family_kept(family, manner)), True)

    def test_bent_leads(self):
        self.assertIs(shows_family_kept(LESSER, "blind", Parting(Lead(3, [1, 0]), (0, 1))), True)
        for lead in NOT_INTEGERS + (
                0, (1, 0), "1 0 : 3", Lead(4, [1, 0]), Lead(1, [0, 0]), Lead(3, [1, 0, 0, 0]), Lead(3, [1]), Lead(5, [1] * 5),
                Lead, LESSER, (Lead(3, [1, 0]),)):
            for manner in MANNERS:
                for row in ((0, 1), (0, 0), (0,), None):
                    self.assertIs(shows_family_kept(LESSER, manner, Parting(lead, row)), False)

    def test_bent_rows(self):
        for row in BENT_ROWS + ((0, 2), (2, 2)):
            self.assertIs(shows_family_kept(LESSER, "blind", Parting(Lead(3, [1, 0]), row)), False, row)
        self.assertIs(shows_family_kept(LESSER, "blind", Parting(Lead(2, [1, 0, 0]), (0, 3))), False)

    def test_leads_of_other_manners(self):
        lead = Lead(3, [1, 0])
        shown = [shows_family_kept(LESSER, manner, Parting(lead, [0, 1])) for manner in MANNERS]
        self.assertEqual(shown, [is_of(lead, manner) for manner in MANNERS])

    def test_other_papers_and_any_values(self):
        right = (Lead(3, [1, 0]), (0, 1))
        for value in NOT_INTEGERS + (
                0, right, Paper("parting", *right), Denial("parting", *right), OwnParting(*right), Parting, "parting",
                ("parting", right), Filled(LEAST.over(2)), NoFill((0, 1)), LESSER, Odd(), Kept, OwnKept()):
            self.assertIs(shows_family_kept(LESSER, "blind", value), False, value)
            if value != Kept():
                self.assertIs(shows_family_kept(LESSER, "rank", value), False, value)

    def test_errors_whatever_the_value_is(self):
        for paper in (None, Kept(), Parting(Lead(3, [1, 0]), (0, 1)), 1):
            for value in NOT_TOLD + (Told(1, 1, [0]), Family):
                self.raises(BadFamily("family"), shows_family_kept, value, "?", paper)
            for manner in NO_MANNERS:
                self.raises(BadManner("manner"), shows_family_kept, LESSER, manner, paper)
            self.raises(Misfit("things"), shows_family_kept, Family([Told(1, 1, [0])]), "two", paper)
        self.assertIs(shows_family_kept(value=Kept(), manner="rank", family=LESSER), True)


class FilledPapers(Case):
    one = Family([Told(1, 2, [0])])
    two = Family([LEAST.over(2)])
    most = Family([Told(2, 3, [0, 0, 0, 1, 0, 1, 1, 1])])

    def test_filled(self):
        for told in (LEAST.over(3), Place(2, 0).over(3), LEAST.over(2), LEAST.over(4), Place(3, 0).over(3)):
            shown = shows_filled(self.two, "rank", 3, Filled(told))
            self.assertIs(shown, told == LEAST.over(3))
        for value in NOT_TOLD + ((LEAST.over(3),), LEAST, Told):
            self.assertIs(shows_filled(self.two, "rank", 3, Filled(value)), False, value)
        for place in (0, 1):
            self.assertIs(shows_filled(self.one, "rank", 3, Filled(Place(2, place).over(3))), False)
        self.assertIs(shows_filled(self.most, "blind", 3, Filled(Place(3, 0).over(3))), False)

    def test_many(self):
        """All pairs of what fills and of what does not, over two things beside one."""
        for manner in manners(1):
            filling = [
                told for told in [Told(2, 2, tells) for tells in itertools.product((0, 1), repeat=4)]
                if family_kept(Family([Told(1, 2, [0]), told]), manner)]
            for one, other in itertools.product(itertools.product((0, 1), repeat=4), repeat=2):
                both = Told(2, 2, one), Told(2, 2, other)
                right = one != other and both[0] in filling and both[1] in filling
                self.assertIs(shows_filled(self.one, manner, 2, Many(*both)), right)

    def test_bent_many(self):
        zero, one = Place(2, 0).over(3), Place(2, 1).over(3)
        for manner in manners(1):
            self.assertIs(shows_filled(self.one, manner, 3, Many(zero, one)), True)
            self.assertIs(shows_filled(self.one, manner, 3, Many(zero, zero)), False)
            for value in NOT_TOLD + ((one,), Place(2, 1), Place(2, 1).over(2), Place(2, 1).over(4), Place(3, 1).over(3)):
                self.assertIs(shows_filled(self.one, manner, 3, Many(zero, value)), False)
                self.assertIs(shows_filled(self.one, manner, 3, Many(value, zero)), False)
                self.assertIs(shows_filled(self.one, manner, 3, Many(value, value)), False)
        self.assertIs(shows_filled(self.two, "rank", 3, Many(LEAST.over(3), zero)), False)

    def test_many_where_leads_bar_nothing_but_the_manner_is_not_kept(self):
        """Between one thing and more ends has no leads that bar; what fills must keep ends itself."""
        bent = Told(3, 1, [0, 2, 2])
        self.assertIs(shows_filled(Family([Told(1, 1, [0])]), "ends", 3, Many(Told(3, 1, [0, 0, 0]), bent)), False)
        self.assertIs(
            shows_filled(Family([Told(1, 1, [0])]), "ends", 3, Many(Told(3, 1, [0, 0, 0]), Told(3, 1, [2, 2, 2]))), True)

    def test_nofill(self):
        for row in inputs(3, 3):
            self.assertIs(shows_filled(self.most, "blind", 3, NoFill(row)), len(set(row)) == 3)
            self.assertIs(shows_filled(self.most, "rank", 3, NoFill(row)), False)
            self.assertIs(shows_filled(self.most, "alike", 3, NoFill(list(row))), False)
        for row in NOT_INTEGERS + (
                0, (0, 1), (0, 1, 2, 0), (0, 1, 3), (0, 1, -1), (0, True, 2), (False, 1, 2), (0, 1, 2.0), ("0", 1, 2),
                (0, 1, None), ((0, 1, 2),), "012", (0, 1, GREAT), {0: 0, 1: 1, 2: 2}, range(3)):
            self.assertIs(shows_filled(self.most, "blind", 3, NoFill(row)), False, row)
        self.assertIs(shows_filled(self.most, "blind", 3, NoFill([2, 0, 1])), True)

    def test_other_papers_and_any_values(self):
        told, rows = LEAST.over(3), [(0, 1, 2), (0, 1)]
        for family, manner in ((self.two, "rank"), (self.most, "blind"), (self.one, "rank")):
            for value in NOT_INTEGERS + (
                    0, told, (told,), Paper("filled", told), Denial("filled", told), OwnFilled(told), Filled, Many, NoFill,
                    Paper("many", told, Place(2, 0).over(3)), OwnMany(told, Place(2, 0).over(3)), "filled", Kept(),
                    Denial("nofill", rows[0]), OwnNoFill(rows[0]), Paper("nofill", rows[0]), OwnNoFill(rows[1]), rows[0],
                    ("filled", told), Odd(), Parting(Lead(3, [1, 0]), (0, 1))):
                self.assertIs(shows_filled(family, manner, 3, value), False, value)

    def test_right_papers_with_lists(self):
        self.assertIs(shows_filled(self.two, "rank", 1, Filled(Told(1, 2, [0]))), True)
        self.assertIs(shows_filled(Family([Told(2, 1, [1, 0])]), "alike", 1, NoFill([0])), True)
        for manner in manners(1):
            paper = filled(self.one, manner, 4)
            self.assertIs(shows_filled(self.one, manner, 4, paper), True)


if __name__ == "__main__":
    unittest.main()
