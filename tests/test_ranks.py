"""Ranks: values, which one tells a family, which fit, and the forms of these."""

import itertools
import random
import unittest

from kindtells.errors import BadFamily, BadNumber, BadWorker, NoThing, TooMany
from kindtells.families import Family, family_kept
from kindtells.forms import Form, all_forms
from kindtells.rankings import all_rankings, ranking_of
from kindtells.ranks import Ranks, fits, form_of_ranks, ranks_of
from kindtells.told import Told, inputs
from kindtells.workers import Place, Worker
from tests.helpers import GREAT, NOT_INTEGERS, NOT_LISTS, Case, Odd, not_within
from tests.test_along import NOT_TOLD, all_told
from tests.test_blocks import ways

NOT_RANKS = NOT_INTEGERS + (0, 2, Ranks, Place(2, 0), Form(2, [(0,)]), Told(2, 1, [0, 1]), [Ranks(1, [0])])


def all_ranks(places):
    return [Ranks(places, chosen) for chosen in ways(all_rankings(places))]


def some_ranks(places, many, seed=0):
    chance = random.Random(seed)
    rankings = all_rankings(places)
    return [Ranks(places, [chance.randrange(max(ranking) + 1) for ranking in rankings]) for _ in range(many)]


def plain_value(ranks, row):
    """The thing of the input that has the chosen rank: as many unlike ones are less."""
    rank = dict(zip(all_rankings(len(row)), ranks.chosen))[ranking_of(row)]
    return sorted(set(row))[rank]


def plainly_fits(ranks):
    """Whether over a world of as many things as places it goes along with all that never falls."""
    things = max(2, ranks.places)
    told = ranks.over(things)
    for row in itertools.combinations_with_replacement(range(things), things):
        for asked in inputs(things, ranks.places):
            if told.at([row[thing] for thing in asked]) != row[told.at(asked)]:
                return False
    return True


def ranks_of_form(form):
    return Ranks(form.places, [form.at(ranking, 5) for ranking in all_rankings(form.places)])


class Making(Case):
    def test_attributes(self):
        for places in (1, 2):
            for chosen in ways(all_rankings(places)):
                ranks = Ranks(places, list(chosen))
                self.assertEqual([ranks.places, repr(ranks.chosen)], [places, repr(chosen)])
        self.assertEqual(Ranks(chosen=[0, 1, 0], places=2), Ranks(2, (0, 1, 0)))

    def test_is_a_worker(self):
        self.assertTrue(issubclass(Ranks, Worker))
        for name in ("at", "over", "__eq__"):
            self.assertIn(name, vars(Ranks))

    def test_chosen_is_copied(self):
        chosen = [0, 1, 1]
        ranks = Ranks(2, chosen)
        chosen[1] = 0
        self.assertEqual([ranks.chosen, ranks.at((3, 4), 5)], [(0, 1, 1), 4])

    def test_equality(self):
        self.all_unlike(all_ranks(1) + all_ranks(2) + some_ranks(3, 9) + [(1, (0,)), (0,), None, Place(1, 0), Odd()])
        self.all_equal([Ranks(2, [0, 1, 1]), Ranks(2, (0, 1, 1))])

    def test_wrong(self):
        for number in not_within(1, 4):
            for chosen in ([0], None, [0, 0, 0], [7]):
                self.raises(BadNumber("places"), Ranks, number, chosen)
        for chosen in NOT_LISTS + (
                [], (), [0], [0, 0], [0, 0, 0, 0], [1, 0, 0], [0, 2, 0], [0, 0, -1], [-1, 0, 0], [0, True, 0],
                [False, 0, 0], [0, None, 1], ["0", "0", "0"], [[0], 0, 0], [(0, 0, 0)], [0, GREAT, 0], [0, 1.0, 0]):
            self.raises(BadNumber("chosen"), Ranks, 2, chosen)
        for places in (1, 2, 3, 4):
            for at, ranking in enumerate(all_rankings(places)):
                chosen = [0] * len(all_rankings(places))
                chosen[at] = max(ranking) + 1
                self.raises(BadNumber("chosen"), Ranks, places, chosen)


class Values(Case):
    def test_at_and_over(self):
        for places, many in ((1, 1), (2, 4), (3, 12), (4, 3)):
            for ranks in all_ranks(places) if places < 3 else some_ranks(places, many):
                for things in range(1, 6):
                    if things ** places > 256:
                        self.raises(TooMany("values", 256), ranks.over, things)
                        continue
                    rows = inputs(things, places)
                    plain = [plain_value(ranks, row) for row in rows]
                    told = ranks.over(things)
                    self.assertEqual([type(told), told], [Told, Told(things, places, plain)])
                    for row, value in list(zip(rows, plain))[::7]:
                        self.assertEqual([ranks.at(row, things), ranks.at(list(row), things)], [value, value])
        ranks = some_ranks(4, 1)[0]
        self.assertEqual(ranks.at(row=(4, 0, 3, 4), things=5), plain_value(ranks, (4, 0, 3, 4)))
        self.assertEqual(ranks.over(things=2), ranks.over(2))

    def test_keep_order_between_worlds(self):
        for places, many in ((1, 1), (2, 4), (3, 9), (4, 3)):
            for ranks in some_ranks(places, many, 1):
                family = Family([ranks.over(things) for things in range(1, 6) if things ** places <= 256])
                self.assertTrue(family_kept(family, "order"))

    def test_wrong(self):
        ranks = Ranks(2, [0, 1, 0])
        for row in NOT_LISTS + ([], (), [0], [0, 0, 0], [0, True], [None, 0], ["0", 0], [[0], 0], [9], [9, None]):
            for things in (3, 1, 0, None):
                self.raises(BadNumber("row"), ranks.at, row, things)
        for things in not_within(1, 5):
            self.raises(BadNumber("things"), ranks.at, [9, -1], things)
            self.raises(BadNumber("things"), ranks.over, things)
            self.raises(BadNumber("things"), some_ranks(4, 1)[0].over, things)
        for row, things, value in (([0, 3], 3, 3), ((-1, 3), 3, -1), ([0, 1], 1, 1), ([GREAT, 9], 5, GREAT)):
            self.raises(NoThing(value), ranks.at, row, things)


class Of(Case):
    def hold_ranks(self, family):
        """Held against all Ranks: the one that tells each member and has 0 for the rankings that are not asked."""
        rankings = all_rankings(family.places)
        most = max(family.worlds)
        expected = [
            ranks for ranks in all_ranks(family.places)
            if all(ranks.over(told.things) == told for told in family.members)
            and all(rank == 0 or max(ranking) < most for ranking, rank in zip(rankings, ranks.chosen))]
        self.assertLess(len(expected), 2)
        self.assertEqual(ranks_of(family), expected[0] if expected else None)

    def test_against_all_ranks(self):
        for worlds, places in (
                ((1,), 1), ((2,), 1), ((3,), 1), ((1, 2), 1), ((2, 3), 1), ((1,), 2), ((2,), 2), ((1, 2), 2)):
            for members in itertools.product(*[all_told(things, places) for things in worlds]):
                self.hold_ranks(Family(members))
        for told in all_told(3, 2)[::37]:
            self.hold_ranks(Family([told]))
            self.hold_ranks(Family([told, Told(2, 2, [0, 1, 0, 1])]))

    def test_each_is_found(self):
        for places, many in ((1, 1), (2, 4), (3, 12), (4, 4)):
            rankings = all_rankings(places)
            for ranks in some_ranks(places, many, 2):
                for worlds in ((1,), (2,), (3,), (1, 2), (2, 4), (1, 3), (3, 4), (1, 2, 3, 4)):
                    asked = [
                        rank if max(ranking) < max(worlds) else 0 for ranking, rank in zip(rankings, ranks.chosen)]
                    family = Family([ranks.over(things) for things in worlds])
                    self.assertEqual(ranks_of(family=family), Ranks(places, asked))

    def test_members_of_two(self):
        """Members of which each is some Ranks', but which choose unlike ranks for a ranking that both ask."""
        for one, other in itertools.permutations(all_ranks(2), 2):
            self.assertIsNone(ranks_of(Family([one.over(2), other.over(3)])))
            self.assertEqual(ranks_of(Family([one.over(3), other.over(1)])), one)
        low, high = Ranks(3, [0] * 13), Ranks(3, [max(ranking) for ranking in all_rankings(3)])
        self.assertIsNone(ranks_of(Family([low.over(2), high.over(3)])))
        three = Ranks(3, [max(ranking) if max(ranking) == 2 else 0 for ranking in all_rankings(3)])
        self.assertEqual(ranks_of(Family([low.over(2), three.over(3)])), three)

    def test_what_is_nearly_one(self):
        chance = random.Random(10)
        for things, places in ((3, 2), (4, 2), (5, 2), (3, 3), (5, 3), (4, 4)):
            for ranks in some_ranks(places, 6, 3):
                tells = list(ranks.over(things).tells)
                at = chance.randrange(len(tells))
                tells[at] = (tells[at] + chance.randrange(1, things)) % things
                told = Told(things, places, tells)
                plain = {}
                for row, value in zip(inputs(things, places), tells):
                    known = ranking_of(row)[row.index(value)] if value in row else None
                    plain.setdefault(ranking_of(row), set()).add(known)
                right = all(len(known) == 1 and None not in known for known in plain.values())
                self.assertIs(ranks_of(Family([told])) is not None, right)

    def test_families_that_keep_order_are_some_ranks(self):
        """Over the worlds from one to as many as places: each family that keeps order, and no other one, is."""
        for worlds, places in (((1,), 1), ((1, 2), 1), ((1, 2), 2)):
            for members in itertools.product(*[all_told(things, places) for things in worlds]):
                family = Family(members)
                self.assertIs(bool(family_kept(family, "order")), ranks_of(family) is not None)

    def test_wrong(self):
        for value in NOT_TOLD + (Told(1, 1, [0]), [Told(1, 1, [0])], Family, Ranks(1, [0])):
            self.raises(BadFamily("family"), ranks_of, value)


class Fitting(Case):
    def test_all_of_one_and_two_places(self):
        for places in (1, 2):
            for ranks in all_ranks(places):
                self.assertIs(fits(ranks), plainly_fits(ranks))

    def test_all_of_three_places(self):
        """18 of 46,656, and these are those of the forms of rank."""
        found = [ranks.chosen for ranks in all_ranks(3) if fits(ranks)]
        self.assertEqual(sorted(found), sorted(ranks_of_form(form).chosen for form in all_forms(3, "rank")))
        self.assertEqual([len(all_ranks(1)), len(all_ranks(2)), len(found)], [1, 4, 18])
        self.assertEqual(len(ways(all_rankings(3))), 46656)

    def test_some_plainly(self):
        chance = random.Random(11)
        for form in all_forms(3, "rank") + all_forms(4, "rank")[::30]:
            ranks = ranks_of_form(form)
            self.assertIs(fits(ranks), True)
            chosen = list(ranks.chosen)
            at = chance.randrange(1, len(chosen))
            most = max(all_rankings(form.places)[at])
            chosen[at] = (chosen[at] + 1) % (most + 1)
            bent = Ranks(form.places, chosen)
            self.assertIs(fits(bent), plainly_fits(bent))
            self.assertIs(form_of_ranks(bent) is None, not plainly_fits(bent))

    def test_forms_of_those_that_fit(self):
        """Each form of rank is found from its Ranks, and tells the same over all worlds."""
        for places, step in ((1, 1), (2, 1), (3, 1), (4, 8)):
            for form in all_forms(places, "rank")[::step]:
                ranks = ranks_of_form(form)
                self.assertEqual(form_of_ranks(ranks=ranks), form)
                for things in range(1, 6):
                    if things ** places <= 256 and (places < 4 or things < 4):
                        self.assertEqual(ranks.over(things), form.over(things))
        self.assertEqual(len({ranks_of_form(form).chosen for form in all_forms(4, "rank")}), 166)

    def test_fitting_is_keeping_rank(self):
        for ranks in all_ranks(2) + some_ranks(3, 40, 5):
            family = Family([ranks.over(things) for things in (1, 2, 3, 4)])
            self.assertIs(fits(ranks), bool(family_kept(family, "rank")))

    def test_wrong(self):
        for value in NOT_RANKS:
            self.raises(BadWorker("ranks"), fits, value)
            self.raises(BadWorker("ranks"), form_of_ranks, value)


if __name__ == "__main__":
    unittest.main()
