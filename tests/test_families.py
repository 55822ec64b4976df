"""Families: members, worlds, and which manners they keep."""

import itertools
import random
import unittest

from kindtells.along import Kept, Parting
from kindtells.errors import BadFamily, BadManner, BadTold, Misfit, NoWorld, Twice
from kindtells.families import Family, enough_rows, family_kept
from kindtells.leads import Lead
from kindtells.manners import MANNERS, is_of, leads
from kindtells.told import Told, inputs
from tests.helpers import GREAT, NOT_INTEGERS, NOT_LISTS, Case, Odd
from tests.test_along import NOT_TOLD, all_told, manners
from tests.test_manners import NO_MANNERS


def told_by(teller, things, places):
    return Told(things, places, [teller(row) for row in inputs(things, places)])


def family_by(teller, worlds, places):
    return Family([told_by(teller, things, places) for things in worlds])


def plain_partings(family, manner):
    """All leads of the manner and inputs at which the family parts."""
    return [
        (lead, row) for begin in family.members for into in family.members
        for lead in leads(manner, begin.things, into.things)
        for row in inputs(begin.things, begin.places)
        if into.at([lead.row[thing] for thing in row]) != lead.row[begin.at(row)]]


class Members(Case):
    two, three = Told(2, 2, [0, 0, 0, 1]), Told(3, 2, [0, 0, 0, 0, 1, 1, 0, 1, 2])

    def test_attributes(self):
        for worlds in ((1,), (5,), (1, 2), (2, 4), (1, 2, 3, 4, 5)):
            for order in itertools.islice(itertools.permutations(worlds), 12):
                members = [told_by(max, things, 3) for things in order]
                for passed in (members, tuple(members)):
                    family = Family(passed)
                    self.assertEqual([repr(family.worlds), family.places], [repr(worlds), 3])
                    self.assertIs(type(family.members), tuple)
                    self.assertEqual(family.members, tuple(told_by(max, things, 3) for things in worlds))
        self.assertEqual(Family(members=[self.two]), Family((self.two,)))

    def test_members_are_copied(self):
        members = [self.two]
        family = Family(members)
        members.append(self.three)
        self.assertEqual(family.members, (self.two,))

    def test_member(self):
        family = Family([self.three, self.two])
        self.assertEqual([family.member(2), family.member(things=3)], [self.two, self.three])
        for things in NOT_INTEGERS + (0, 1, 4, 5, 6, -1, -2, GREAT, "2", (2,), 2.0):
            self.raises(NoWorld(things), family.member, things)
        one = Family([Told(1, 1, [0])])
        self.raises(NoWorld(True), one.member, True)

    def test_equality(self):
        self.all_equal([Family([self.two, self.three]), Family((self.three, self.two))])
        self.all_unlike([
            Family([self.two, self.three]), Family([self.two]), Family([self.three]), Family([Told(2, 2, [0] * 4)]),
            Family([Told(1, 1, [0])]), Family([Told(1, 2, [0])]), (self.two, self.three), self.two, None, Odd()])

    def test_members_are_wrong(self):
        for members in NOT_LISTS + (
                [], (), [None], [self.two, None], [self.two, "2 1 : 0 1"], [[self.two]], [self.two, self.two, 1],
                self.two, [Told], [True], [Family([self.two])]):
            self.raises(BadTold("members"), Family, members)

    def test_worlds_and_places_are_wrong(self):
        one = Told(3, 1, [0, 1, 2])
        for members, things in (
                ([self.two, self.two], 2), ([self.three, self.two, one], 3), ([self.two, self.three, one, self.two], 3),
                ([one, self.two, self.two, one], 2)):
            self.raises(Twice(things), Family, members)
        for members in ([self.two, one], [one, self.two], [self.two, self.three, Told(1, 1, [0])]):
            self.raises(Misfit("places"), Family, members)


class Enough(Case):
    def test_all_leads_between_worlds_come_of_enough(self):
        """All leads are those that are enough, behind or ahead of leads of the greater world to itself."""
        for manner, begin, into in itertools.product(MANNERS, (1, 2, 3, 4, 5), (1, 2, 3, 4, 5)):
            if begin == into or (manner == "two" and 1 in (begin, into)):
                continue
            enough = enough_rows(manner, begin, into)
            self.assertEqual([len(row) for row in enough], [begin] * len(enough))
            rows = set(enough)
            for own in leads(manner, max(begin, into), max(begin, into)):
                rows |= {tuple(own.row[thing] for thing in row) for row in enough if begin < into}
                rows |= {tuple(row[thing] for thing in own.row) for row in enough if begin > into}
            self.assertEqual(rows, {lead.row for lead in leads(manner, begin, into)})


class Keeping(Case):
    def hold_kept(self, family, manner):
        plain = plain_partings(family, manner)
        paper = family_kept(family, manner)
        self.assertEqual(paper, family_kept(Family(family.members[::-1]), manner))
        if plain:
            self.assertIs(type(paper), Parting)
            self.assertIn([paper.lead, paper.row], [[lead, row] for lead, row in plain])
            self.assertTrue(is_of(paper.lead, manner))
        else:
            self.assertEqual(paper, Kept())

    def test_all_over_small_worlds(self):
        """What is kept is held against a plain count over all leads of the manner."""
        for worlds, places in (((1, 2), 1), ((2, 3), 1), ((1, 3), 1), ((1, 2), 2), ((1, 2, 3), 1)):
            for members in itertools.product(*[all_told(things, places) for things in worlds]):
                for manner in manners(min(worlds)):
                    self.hold_kept(Family(members), manner)

    def test_some_over_greater_worlds(self):
        chance = random.Random(5)
        tellers = (min, max, lambda row: 0, lambda row: row[0], lambda row: row[-1], lambda row: sorted(row)[1])
        for worlds in ((2, 3), (2, 4), (3, 4), (1, 4), (2, 3, 4), (3, 5)):
            for teller in tellers:
                family = family_by(teller, worlds, 2)
                other = list(family.members)
                at = chance.randrange(len(other))
                tells = list(other[at].tells)
                tells[chance.randrange(len(tells))] = chance.randrange(other[at].things)
                other[at] = Told(other[at].things, 2, tells)
                for manner in manners(min(worlds)):
                    self.hold_kept(family, manner)
                    self.hold_kept(Family(other), manner)

    def test_members_keep_alone_but_not_together(self):
        """Each constant keeps ends in its own world; together just those of the one or the other end do."""
        for low, high in ((0, 0), (1, 2), (0, 2), (1, 0), (0, 1)):
            family = Family([Told(2, 1, [low] * 2), Told(3, 1, [high] * 3)])
            self.assertEqual(bool(family_kept(family, "ends")), (low, high) in ((0, 0), (1, 2)))
            self.assertEqual(bool(family_kept(family, "least")), (low, high) == (0, 0))

    def test_thing_left_over_keeps_alike_alone(self):
        other, same = Told(2, 1, [1, 0]), Told(3, 1, [0, 1, 2])
        self.assertEqual(family_kept(Family([other]), "alike"), Kept())
        self.assertEqual(family_kept(Family([other, same]), "alike").word, "parting")
        self.assertEqual(family_kept(Family([other, Told(1, 1, [0])]), "alike").word, "parting")

    def test_order_asks_between_worlds(self):
        """Over one world order asks nothing, over several the function must be told by rankings."""
        for told in all_told(2, 2):
            self.assertEqual(family_kept(Family([told]), "order"), Kept())
        found = [
            told.tells for told in all_told(2, 2) if family_kept(Family([Told(1, 2, [0]), told]), "order")]
        self.assertEqual(found, [(0, 0, 0, 1), (0, 0, 1, 1), (0, 1, 0, 1), (0, 1, 1, 1)])

    def test_all_five_worlds(self):
        kept_by = (
            (lambda row: row[1], ["blind", "rank", "either", "least", "ends", "one", "alike", "order"]),
            (min, ["rank", "least", "ends", "order"]), (max, ["rank", "least", "ends", "order"]),
            (lambda row: sorted(row)[1], ["rank", "either", "least", "ends", "order"]),
            (lambda row: row[0] if row[1] == row[2] else row[1], ["alike", "order"]),
            (lambda row: 0, ["least", "ends", "one"]))
        for teller, expected in kept_by:
            family = family_by(teller, (1, 2, 3, 4, 5), 3)
            self.assertEqual([manner for manner in manners(1) if family_kept(family, manner)], expected)
        for thing in (0, 1):
            self.assertEqual(family_kept(family_by(lambda row: thing, (2, 3, 4, 5), 3), "two"), Kept())
        self.assertEqual(family_kept(family_by(max, (2, 3, 4, 5), 3), "two").word, "parting")

    def test_four_places(self):
        family = family_by(lambda row: sorted(row)[2], (1, 2, 3, 4), 4)
        self.assertEqual(family_kept(family, "rank"), Kept())
        self.assertEqual(family_kept(family, "either").word, "parting")
        self.assertEqual(family_kept(family, "order"), Kept())

    def test_names(self):
        self.assertEqual(family_kept(manner="blind", family=Family([Told(1, 1, [0])])), Kept())

    def test_wrong(self):
        family = Family([Told(1, 1, [0]), Told(2, 1, [0, 1])])
        for value in NOT_TOLD + (Told(1, 1, [0]), [Told(1, 1, [0])], Family):
            self.raises(BadFamily("family"), family_kept, value, "rank")
            self.raises(BadFamily("family"), family_kept, value, "?")
        for manner in NO_MANNERS:
            self.raises(BadManner("manner"), family_kept, family, manner)
        self.raises(Misfit("things"), family_kept, family, "two")
        self.raises(Misfit("things"), family_kept, Family([Told(1, 4, [0])]), "two")
        self.assertEqual(family_kept(Family([Told(2, 1, [0, 1])]), "two"), Kept())


if __name__ == "__main__":
    unittest.main()
