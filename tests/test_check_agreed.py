"""Which papers show whether two told manners have the same functions."""

import itertools
import random
import unittest

from kindtells.agreed import Same, Unlike, compared_manners
from kindtells.along import Kept
from kindtells.check_agreed import shows_compared
from kindtells.closed import closed
from kindtells.errors import BadLead, Misfit
from kindtells.leads import Lead, idle
from kindtells.manners import leads
from kindtells.papers import Denial, Paper
from kindtells.told import Told
from kindtells.workers import Place
from tests.helpers import NOT_INTEGERS, Alike, Case, Odd
from tests.test_agreed import all_tells, going_all, some_manners
from tests.test_along import NOT_TOLD
from tests.test_closed import MISFITS, NO_TOLD_MANNERS, all_rows, to_leads

TURN, LOW, HIGH = Lead(2, [1, 0]), Lead(2, [0, 0]), Lead(2, [1, 1])


class OwnSame(Same):
    """Classes of their own: what they make is no Same, no Unlike."""


class OwnUnlike(Unlike):
    pass


class OwnTold(Told):
    pass


class Right(Case):
    def test_all_over_two_things(self):
        """For each told function of one place and of two it is plain whether it is one of one told manner alone."""
        found = [rows for many in (1, 2, 4) for rows in itertools.combinations(all_rows(2), many)]
        for rows, others in itertools.product(found, found[::2]):
            one, other = to_leads(rows), to_leads(others)
            same = True
            for places in (1, 2):
                along = going_all(rows, places), going_all(others, places)
                same = same and along[0] == along[1]
                for at, tells in enumerate(all_tells(2, places)):
                    right = along[0] >> at & 1 != along[1] >> at & 1
                    self.assertIs(shows_compared(one, other, Unlike(Told(2, places, tells))), right)
            self.assertIs(shows_compared(one, other, Same()), same)
            self.assertIs(shows_compared(one, other, compared_manners(one, other)), True)

    def test_some_over_three_things(self):
        chance = random.Random(61)
        found = [rows for rows in some_manners() if len(rows[0]) == 3]
        for _ in range(50):
            rows, others = chance.choice(found), chance.choice(found)
            one, other = to_leads(rows), to_leads(others)
            for places in (1, 2):
                along = going_all(rows, places), going_all(others, places)
                for _ in range(9):
                    at = chance.randrange(len(all_tells(3, places)))
                    told = Told(3, places, all_tells(3, places)[at])
                    self.assertIs(shows_compared(one, other, Unlike(told)), along[0] >> at & 1 != along[1] >> at & 1)
            same = all(going_all(rows, places) == going_all(others, places) for places in (1, 2))
            self.assertIs(shows_compared(one, other, Same()), same)
            self.assertIs(shows_compared(one, other, compared_manners(one, other)), True)
            self.assertIs(shows_compared(one, closed(one), Same()), True)

    def test_names(self):
        self.assertIs(shows_compared(value=Same(), other=[TURN], one=(TURN, TURN)), True)
        self.assertIs(shows_compared(leads("either", 3, 3), leads("blind", 3, 3), Same()), True)
        self.assertIs(shows_compared(leads("either", 2, 2), leads("rank", 2, 2), Same()), False)


class Bent(Case):
    def test_functions_of_both_and_of_none(self):
        # The lesser of two things goes along with both low and high, the other thing of two with none of them.
        for told in (Told(2, 2, [0, 0, 0, 1]), Told(2, 1, [1, 0]), Told(2, 1, [0, 1])):
            self.assertIs(shows_compared([LOW], [HIGH], Unlike(told)), False)
            self.assertIs(shows_compared([LOW], [HIGH, LOW], Unlike(told)), False)
        for told in (Told(2, 1, [0, 0]), Told(2, 1, [1, 1])):
            self.assertIs(shows_compared([LOW], [HIGH], Unlike(told)), True)

    def test_of_three_places_and_of_other_worlds(self):
        for told in (
                Told(2, 3, [0] * 8), Told(2, 4, [0] * 16), Told(1, 1, [0]), Told(1, 2, [0]), Told(3, 1, [0] * 3),
                Told(3, 2, [0] * 9), Told(4, 1, [0] * 4), Told(5, 2, [0] * 25)):
            self.assertIs(shows_compared([LOW], [HIGH], Unlike(told)), False)
        for places, right in ((1, True), (2, True), (3, False), (4, False)):
            self.assertIs(shows_compared([idle(3)], [Lead(3, [1, 1, 1])], Unlike(Told(3, places, [0] * 3 ** places))), right)

    def test_no_told_functions(self):
        right = Told(2, 1, [0, 0])
        for value in NOT_TOLD + ((right,), [right], Place(1, 0), Unlike(right), OwnTold(2, 1, [0, 0]), "2 1 : 0 0"):
            self.assertIs(shows_compared([LOW], [HIGH], Unlike(value)), False, value)

    def test_other_papers_and_any_values(self):
        right = Told(2, 1, [0, 0])
        for value in NOT_INTEGERS + (
                0, right, OwnUnlike(right), Denial("unlike", right), Paper("unlike", right), Unlike, Same, OwnSame(),
                Paper("same"), Denial("same"), Kept(), "same", Odd(), Alike(), (right,)):
            self.assertIs(shows_compared([LOW], [HIGH], value), False, value)
            self.assertIs(shows_compared([LOW], [LOW], value), False, value)

    def test_errors_whatever_the_value_is(self):
        for paper in (None, Same(), Unlike(None), Unlike(Told(2, 1, [0, 0]))):
            for value in NO_TOLD_MANNERS:
                self.raises(BadLead("one"), shows_compared, value, None, paper)
                self.raises(BadLead("other"), shows_compared, [idle(1)], value, paper)
            for value in MISFITS:
                self.raises(Misfit("things"), shows_compared, value, [idle(2)], paper)
                self.raises(Misfit("things"), shows_compared, [idle(2)], value, paper)
            self.raises(Misfit("things"), shows_compared, [idle(2)], [idle(3)], paper)


if __name__ == "__main__":
    unittest.main()
