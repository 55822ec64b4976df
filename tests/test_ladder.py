"""Which manners are above others, and the topmost ones that told functions keep."""

import itertools
import random
import unittest

from kindtells.along import Parting, keeps
from kindtells.errors import BadManner, BadNumber, BadTold, Misfit
from kindtells.ladder import Ladder, is_above, kept_manners, ladder
from kindtells.leads import Lead
from kindtells.manners import MANNERS, is_of, leads
from kindtells.papers import Paper
from kindtells.told import Told, inputs
from kindtells.workers import Place, Thing
from tests.helpers import Case, not_within
from tests.test_along import NOT_TOLD, all_told, plain_parting, plainly_keeps
from tests.test_manners import NO_MANNERS
from tests.test_told import SIZES, some_told

EIGHT = ("blind", "rank", "either", "least", "ends", "one", "two", "alike")
NOT_OF_EIGHT = NO_MANNERS + ("order",)


def asked(things):
    return [manner for manner in EIGHT if manner != "two" or things > 1]


def plainly_above(things):
    """The pairs of manners of which the one has all leads of the other one and others besides."""
    found = {manner: {lead.row for lead in leads(manner, things, things)} for manner in asked(things)}
    return {(one, other) for one, other in itertools.product(found, repeat=2) if found[one] > found[other]}


class Above(Case):
    def test_the_eight(self):
        self.assertEqual(EIGHT, MANNERS[:8])

    def test_all(self):
        for things in (1, 2, 3, 4, 5):
            above = plainly_above(things)
            for manner, other in itertools.product(asked(things), repeat=2):
                self.assertIs(is_above(manner, other, things), (manner, other) in above)
        self.assertIs(is_above(things=4, other="ends", manner="least"), True)

    def test_as_told(self):
        more = {"blind": EIGHT[1:], "either": ("rank", "least", "ends"), "rank": ("least", "ends"),
                "one": ("least", "ends", "two"), "least": ("ends",)}
        for things in (3, 4, 5):
            for manner, other in itertools.product(EIGHT, repeat=2):
                self.assertIs(is_above(manner, other, things), other in more.get(manner, ()))
        for manner, other in itertools.product(asked(1), repeat=2):
            self.assertIs(is_above(manner, other, 1), False)

    def test_wrong(self):
        for manner in NOT_OF_EIGHT:
            self.raises(BadManner("manner"), is_above, manner, "order", 0)
            self.raises(BadManner("manner"), is_above, manner, "rank", 1)
            self.raises(BadManner("other"), is_above, "rank", manner, 0)
            self.raises(BadManner("other"), is_above, "two", manner, 1)
        for number in not_within(1, 5):
            self.raises(BadNumber("things"), is_above, "blind", "rank", number)
            self.raises(BadNumber("things"), is_above, "two", "two", number)
        for other in EIGHT:
            self.raises(Misfit("things"), is_above, "two", other, 1)
            self.raises(Misfit("things"), is_above, other, "two", 1)


class Topmost(Case):
    def hold_ladder(self, told):
        above = plainly_above(told.things) if told.things < 4 else plainly_above(3)
        kept = [manner for manner in asked(told.things) if plainly_keeps(told, manner)]
        topmost = [manner for manner in kept if not any((other, manner) in above for other in kept)]
        paper = ladder(told)
        self.assertEqual(repr(kept_manners(told)), repr(tuple(kept)))
        self.assertEqual([type(paper), repr(paper.manners)], [Ladder, repr(tuple(topmost))])
        self.assertIs(type(paper.partings), tuple)
        self.assertEqual(paper, ladder(told))
        others = [manner for manner in asked(told.things) if manner not in kept]
        self.assertEqual(len(paper.partings), len(others))
        for manner, parting in zip(others, paper.partings):
            self.assertIs(type(parting), Parting)
            self.assertTrue(is_of(parting.lead, manner))
            self.assertEqual([parting.lead.begin, parting.lead.into], [told.things, told.things])
            self.assertIn(parting.row, plain_parting(told, parting.lead))

    def test_all_over_small_worlds(self):
        for things, places in ((1, 1), (1, 2), (1, 4), (2, 1), (2, 2), (3, 1)):
            for told in all_told(things, places):
                self.hold_ladder(told)

    def test_some_over_greater_worlds(self):
        for told in all_told(2, 3)[::9] + all_told(3, 2)[::400] + all_told(4, 1)[::9]:
            self.hold_ladder(told)
        for things, places in ((2, 4), (3, 2), (3, 3), (4, 1), (4, 2)):
            for told in some_told(things, places):
                self.hold_ladder(told)

    def test_kept_manners(self):
        chance = random.Random(16)
        for things, places in SIZES:
            found = some_told(things, places)
            found.append(Told(things, places, [chance.randrange(things) for _ in inputs(things, places)]))
            for told in found:
                self.assertEqual(kept_manners(told), tuple(m for m in asked(things) if keeps(told, m)))
                self.assertEqual(len(ladder(told).partings) + len(kept_manners(told)), len(asked(things)))

    def test_over_one_thing_seven(self):
        for places in (1, 2, 3, 4):
            told = Told(1, places, [0])
            self.assertEqual(kept_manners(told=told), EIGHT[:6] + EIGHT[7:])
            self.assertEqual(ladder(told=told), Ladder(EIGHT[:6] + EIGHT[7:], ()))

    def test_single_things(self):
        """0 has one as topmost, the greatest ends, 1 two, all others none, over three things or more."""
        for places, things in itertools.product((1, 2, 3), (3, 4, 5)):
            for thing in range(things):
                told = Told(things, places, [thing] * things ** places)
                expected = {0: ("one",), things - 1: ("ends",), 1: ("two",)}.get(thing, ())
                self.assertEqual(ladder(told).manners, expected)

    def test_workers(self):
        for things in (3, 4):
            self.assertEqual(ladder(Place(2, 1).over(things)).manners, ("blind",))
            self.assertEqual(ladder(Thing(4, 0).over(things)).manners, ("one",))
            self.assertEqual(ladder(Told(things, 2, [min(row) for row in inputs(things, 2)])).manners, ("rank",))
            middle = Told(things, 3, [sorted(row)[1] for row in inputs(things, 3)])
            self.assertEqual(ladder(middle).manners, ("either",))
            lone = Told(things, 2, [row[0] if row[0] == row[1] else row[1] for row in inputs(things, 2)])
            self.assertEqual(ladder(lone).manners, ("blind",))
        left = Told(3, 2, [0, 2, 1, 2, 1, 0, 1, 0, 2])
        self.assertEqual([ladder(left).manners, len(ladder(left).partings)], [("alike",), 7])

    def test_paper(self):
        parting = Parting(Lead(2, [1, 0]), (0, 1))
        paper = Ladder(["rank", ["x"]], [parting])
        self.assertEqual([paper.word, paper.manners, paper.partings], ["ladder", ("rank", ("x",)), (parting,)])
        self.assertEqual([paper.parts, bool(paper)], [(("rank", ("x",)), (parting,)), True])
        self.assertEqual(Ladder(partings=[], manners=None), Ladder(None, ()))
        self.assertEqual(Ladder.__bases__, (Paper,))
        self.all_unlike([paper, Ladder(("rank",), (parting,)), Ladder((), ()), Paper("ladder", (), ())])

    def test_wrong(self):
        for value in NOT_TOLD:
            self.raises(BadTold("told"), kept_manners, value)
            self.raises(BadTold("told"), ladder, value)


if __name__ == "__main__":
    unittest.main()
