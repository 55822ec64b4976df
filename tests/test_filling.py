"""What fills a family, held against a plain count over all leads and all told functions."""

import functools
import itertools
import random
import unittest

from kindtells.along import Parting
from kindtells.blocks import Blocks
from kindtells.check_families import shows_filled
from kindtells.errors import BadFamily, BadManner, BadNumber, Impossible, Misfit, TooMany, Twice
from kindtells.families import Family, family_kept
from kindtells.filling import Filled, Many, NoFill, filled
from kindtells.forms import Form, all_forms
from kindtells.manners import MANNERS, leads
from kindtells.papers import Denial, Paper
from kindtells.places import all_known
from kindtells.told import Told, inputs
from kindtells.workers import Place, Thing
from tests.helpers import Case, not_within
from tests.test_along import NOT_TOLD
from tests.test_blocks import all_alike, some_blocks
from tests.test_manners import NO_MANNERS
from tests.test_ranks import some_ranks


@functools.lru_cache(None)
def rows(things, places):
    return list(itertools.product(range(things), repeat=places))


@functools.lru_cache(None)
def lead_rows(manner, begin, into):
    return [lead.row for lead in leads(manner, begin, into)]


@functools.lru_cache(None)
def led(row, into, places):
    """For each input the index of the input to which it is led."""
    found = {asked: index for index, asked in enumerate(rows(into, places))}
    return [found[tuple(row[thing] for thing in asked)] for asked in rows(len(row), places)]


def goes_along(begin, into, row, places):
    """Whether the values into are at the led inputs what the values begin are led to."""
    things, tells = into
    return all(tells[index] == row[value] for value, index in zip(begin[1], led(row, things, places)))


@functools.lru_cache(None)
def plainly_kept(things, places, manner):
    """The values of all told functions over a world that keep the manner there."""
    asked = lead_rows(manner, things, things)
    return [
        tells for tells in itertools.product(range(things), repeat=things ** places)
        if all(goes_along((things, tells), (things, tells), row, places) for row in asked)]


def fits_between(one, other, places, manner):
    """Whether two members go along with all leads from the world of each to that of the other one."""
    there = all(goes_along(one, other, row, places) for row in lead_rows(manner, one[0], other[0]))
    return there and all(goes_along(other, one, row, places) for row in lead_rows(manner, other[0], one[0]))


def plainly_barred(family, manner, things):
    """For each input over the asked world the set of things that some lead bars."""
    places = family.places
    barred = [set() for _ in rows(things, places)]
    for member in family.members:
        for row in lead_rows(manner, things, member.things):
            for at, index in enumerate(led(row, member.things, places)):
                barred[at] |= {thing for thing in range(things) if row[thing] != member.tells[index]}
        for row in lead_rows(manner, member.things, things):
            for value, index in zip(member.tells, led(row, things, places)):
                barred[index] |= {thing for thing in range(things) if thing != row[value]}
    return barred


def plainly_fills(family, manner, told):
    keeps = all(
        goes_along((told.things, told.tells), (told.things, told.tells), row, told.places)
        for row in lead_rows(manner, told.things, told.things))
    return keeps and all(
        fits_between((member.things, member.tells), (told.things, told.tells), told.places, manner)
        for member in family.members)


def all_families(worlds, places, manner):
    """All families over these worlds that keep the manner."""
    for members in itertools.product(*[plainly_kept(things, places, manner) for things in worlds]):
        pairs = itertools.combinations(list(zip(worlds, members)), 2)
        if all(fits_between(one, other, places, manner) for one, other in pairs):
            yield Family([Told(things, places, tells) for things, tells in zip(worlds, members)])


def some_workers(manner, places):
    if manner in ("blind", "one", "two"):
        return list(all_known(places, manner))
    if manner == "alike":
        return some_blocks(places, 3, 12)
    if manner == "order":
        return some_ranks(places, 3, 12)
    return random.Random(12).sample(all_forms(places, manner), min(3, len(all_forms(places, manner))))


class Counting(Case):
    def hold_filled(self, family, manner, things):
        """Held against what the leads bar; and against the plain count of all that fill, where it is passed."""
        paper = filled(family, manner, things)
        barred = plainly_barred(family, manner, things)
        most = max(len(some) for some in barred)
        if most == things:
            self.assertIs(type(paper), NoFill)
            self.assertEqual(len(barred[rows(things, family.places).index(paper.row)]), things)
        elif all(len(some) == things - 1 for some in barred):
            self.assertIs(type(paper), Filled)
            self.assertTrue(plainly_fills(family, manner, paper.told))
        else:
            self.assertIs(type(paper), Many)
            self.assertFalse(paper.one == paper.other)
            for told in (paper.one, paper.other):
                self.assertEqual([type(told), told.things, told.places], [Told, things, family.places])
                self.assertTrue(plainly_fills(family, manner, told))
        self.assertEqual(paper, filled(Family(family.members[::-1]), manner, things))
        self.assertIs(shows_filled(family, manner, things, paper), True)
        for row, some in list(zip(rows(things, family.places), barred))[::1 if len(barred) < 28 else 11]:
            self.assertIs(shows_filled(family, manner, things, NoFill(row)), len(some) == things)
        return paper

    def hold_all_that_fill(self, family, manner, things):
        """Held against all told functions over the asked world."""
        found = [
            tells for tells in plainly_kept(things, family.places, manner)
            if all(fits_between((member.things, member.tells), (things, tells), family.places, manner)
                   for member in family.members)]
        paper = self.hold_filled(family, manner, things)
        self.assertEqual(paper.word, ("nofill", "filled", "many")[min(2, len(found))])
        for told in paper.parts if found else ():
            self.assertIn(told.tells, found)

    def test_all_of_one_place(self):
        for manner in MANNERS:
            for many in (1, 2):
                for worlds in itertools.combinations((1, 2, 3), many):
                    if manner == "two" and 1 in worlds:
                        continue
                    for family in itertools.islice(all_families(worlds, 1, manner), 40):
                        for things in {1, 2, 3, 4} - set(worlds):
                            if manner != "two" or things > 1:
                                self.hold_all_that_fill(family, manner, things)

    def test_all_of_more_places(self):
        for places, told_worlds, asked in ((2, (1, 2), (1, 2, 3)), (3, (1, 2), (1, 2)), (4, (1,), (2,))):
            for manner in MANNERS:
                for worlds in [(things,) for things in told_worlds] + [told_worlds]:
                    if manner == "two" and 1 in worlds:
                        continue
                    for family in itertools.islice(all_families(worlds, places, manner), 20):
                        for things in asked:
                            if things not in worlds and things > (manner == "two"):
                                few = len(rows(things, places)) < 9 or (manner != "order" and places < 4)
                                hold = self.hold_all_that_fill if few else self.hold_filled
                                hold(family, manner, things)

    def test_some_over_greater_worlds(self):
        for places, most in ((1, 5), (2, 5), (3, 4), (4, 3)):
            for manner in MANNERS:
                for worker in some_workers(manner, places):
                    for worlds in ((1,), (2,), (3,), (4,), (2, 3), (1, 2), (2, 4)):
                        if max(worlds) ** places > 81 or (manner == "two" and 1 in worlds):
                            continue
                        family = Family([worker.over(things) for things in worlds])
                        for things in range(1, most + 1):
                            if things not in worlds and (manner != "two" or things > 1):
                                paper = self.hold_filled(family, manner, things)
                                self.assertNotEqual(paper.word, "nofill")
                                if paper.word == "filled":
                                    self.assertEqual(paper.told, worker.over(things))

    def test_some_families_of_no_worker(self):
        """Those of which a told function over two things is alone, and things left over."""
        for manner in ("blind", "rank", "either", "least", "ends", "one", "two"):
            found = [tells for tells in plainly_kept(2, 3, manner)]
            for tells in random.Random(13).sample(found, min(12, len(found))):
                for things in (3, 4) if manner == "two" else (1, 3, 4):
                    self.hold_filled(Family([Told(2, 3, tells)]), manner, things)
        for things, places in ((2, 2), (3, 2), (3, 3), (4, 3)):
            for told, over in itertools.islice(all_alike(things, places), 0, None, 4):
                for other in (1, 2, 3, 4, 5):
                    if other != things:
                        paper = self.hold_filled(Family([told]), "alike", other)
                        self.assertIs(paper.word == "nofill", over != () and other >= things - 1)

    def test_order_of_told_functions_at_random(self):
        chance = random.Random(14)
        for things, places in ((2, 2), (3, 2), (4, 2), (2, 3), (3, 3), (5, 1), (5, 2)):
            for worker in some_ranks(places, 6, 15):
                tells = list(worker.over(things).tells)
                for _ in range(chance.randrange(3)):
                    tells[chance.randrange(len(tells))] = chance.randrange(things)
                for other in (1, 2, 3, 4, 5):
                    if other != things:
                        self.hold_filled(Family([Told(things, places, tells)]), "order", other)


class Edges(Case):
    def test_one_at_most(self):
        """If a told world has more things than the asked one, or two, all but alike and order leave one at most."""
        for manner in ("blind", "rank", "either", "least", "ends", "one", "two"):
            for worker in some_workers(manner, 2):
                for worlds in ((2,), (4,), (2, 5)):
                    family = Family([worker.over(things) for things in worlds])
                    self.assertEqual(filled(family, manner, 3), Filled(worker.over(3)))

    def test_world_of_one_thing(self):
        for places in (1, 2, 3, 4):
            family = Family([Told(1, places, [0])])
            for manner in ("blind", "rank", "either", "alike", "order"):
                self.assertEqual(filled(family, manner, 2).word, "filled" if places == 1 else "many")
            for manner in ("least", "ends", "one"):
                self.assertEqual(filled(family, manner, 2).word, "many")
            for worker in (Place(places, 0), Place(places, places - 1), Thing(places, 0)):
                for manner in MANNERS:
                    if manner != "two" and family_kept(Family([worker.over(1), worker.over(3)]), manner):
                        self.assertEqual(filled(Family([worker.over(3)]), manner, 1), Filled(Told(1, places, [0])))
        self.assertEqual(filled(Family([Told(2, 1, [1, 1])]), "ends", 1), Filled(Told(1, 1, [0])))
        # No lead of ends goes from one thing to two: only one of least bars the thing 0 there.
        self.assertEqual(filled(Family([Told(2, 1, [1, 0])]), "ends", 1), Filled(Told(1, 1, [0])))

    def test_asked_world_of_125_values(self):
        for worker, manner in ((Form(3, [(0, 1), (1, 2)]), "rank"), (Place(3, 2), "blind"), (some_ranks(3, 1)[0], "order")):
            self.assertEqual(filled(Family([worker.over(3), worker.over(4)]), manner, 5), Filled(worker.over(5)))
        blocks = Blocks(3, [0, 1, 1, 0, 2])
        self.assertEqual(filled(Family([blocks.over(3)]), "alike", 5), Filled(blocks.over(5)))
        self.assertEqual(filled(Family([Place(4, 1).over(4)]), "blind", 3), Filled(Place(4, 1).over(3)))

    def test_alike_and_order_ask_nothing_of_what_no_lead_reaches(self):
        """A family over two things tells nothing of three unlike ones."""
        for manner, worker in (("alike", Blocks(3, [0, 1, 1, 0, 2])), ("order", some_ranks(3, 1)[0])):
            paper = filled(Family([worker.over(2)]), manner, 4)
            self.assertEqual(paper.word, "many")
            for row, one, other in zip(inputs(4, 3), paper.one.tells, paper.other.tells):
                if len(set(row)) < 3:
                    self.assertEqual([one, other], [worker.at(row, 4)] * 2)

    def test_papers(self):
        told, other = Told(2, 1, [0, 1]), Told(2, 1, [1, 0])
        for paper, word, parts in (
                (Filled(told), "filled", (told,)), (Many(told, other), "many", (told, other)),
                (NoFill([1, 0]), "nofill", ((1, 0),)), (Filled(told=[1]), "filled", ((1,),)),
                (Many(other=[told], one=None), "many", (None, (told,))), (NoFill(row="x"), "nofill", ("x",))):
            self.assertEqual([paper.word, paper.parts], [word, parts])
            self.assertIs(bool(paper), word != "nofill")
        self.assertEqual([Filled([1]).told, Many(1, [2]).one, Many(1, [2]).other, NoFill([3]).row], [(1,), 1, (2,), (3,)])
        self.assertEqual([Filled.__bases__, Many.__bases__, NoFill.__bases__], [(Paper,), (Paper,), (Denial,)])
        self.all_unlike([Filled(told), Filled(other), Many(told, other), Many(other, told), NoFill((0,)), NoFill((1,))])


class Wrong(Case):
    two = Family([Told(2, 2, [0, 0, 0, 1])])
    bent = Family([Told(2, 2, [0, 0, 0, 1]), Told(3, 2, [0] * 9)])
    calls = (filled, lambda family, manner, things: shows_filled(family, manner, things, None))

    def test_family(self):
        for call in self.calls:
            for value in NOT_TOLD + (Told(1, 1, [0]), [Told(1, 1, [0])], Family):
                self.raises(BadFamily("family"), call, value, "rank", 3)
                self.raises(BadFamily("family"), call, value, "?", 9)

    def test_manner(self):
        for call in self.calls:
            for manner in NO_MANNERS:
                self.raises(BadManner("manner"), call, self.two, manner, 3)
                self.raises(BadManner("manner"), call, self.two, manner, 0)

    def test_things(self):
        for call in self.calls:
            for things in not_within(1, 5):
                for manner in MANNERS:
                    self.raises(BadNumber("things"), call, self.two, manner, things)
                self.raises(BadNumber("things"), call, Family([Told(1, 4, [0])]), "two", things)

    def test_worlds(self):
        one = Family([Told(1, 4, [0])])
        for call in self.calls:
            self.raises(Twice(2), call, self.two, "blind", 2)
            self.raises(Twice(3), call, self.bent, "rank", 3)
            self.raises(Twice(1), call, one, "two", 1)
            self.raises(Twice(4), call, Family([Told(4, 4, [0] * 256)]), "blind", 4)
            for things in (2, 3, 5):
                self.raises(Misfit("things"), call, one, "two", things)
            self.raises(Misfit("things"), call, self.two, "two", 1)
            self.raises(Misfit("things"), call, self.bent, "two", 1)

    def test_too_many(self):
        for call in self.calls:
            for things in (4, 5):
                self.raises(TooMany("values", 125), call, Family([Told(1, 4, [0])]), "blind", things)
                self.raises(TooMany("values", 125), call, Family([Told(2, 4, [1] * 16)]), "blind", things)
        self.assertEqual(filled(Family([Told(1, 3, [0])]), "blind", 5).word, "many")
        self.assertEqual(filled(Family([Told(1, 4, [0])]), "blind", 3).word, "many")

    def test_impossible(self):
        for call in self.calls:
            for family, manner in (
                    (self.two, "blind"), (self.two, "either"), (self.two, "alike"), (self.bent, "rank"),
                    (self.bent, "blind"), (Family([Told(2, 1, [1, 1])]), "least")):
                paper = family_kept(family, manner)
                self.assertIs(type(paper), Parting)
                for things in {1, 4, 5}:
                    self.raises(Impossible(paper), call, family, manner, things)

    def test_names(self):
        self.assertEqual(filled(things=1, manner="rank", family=self.two), Filled(Told(1, 2, [0])))
        self.assertIs(
            shows_filled(value=Filled(Told(1, 2, [0])), things=1, manner="rank", family=self.two), True)


if __name__ == "__main__":
    unittest.main()
