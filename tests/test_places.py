"""Places and known things: all of a manner, which one tells a told function, and what is turned."""

import itertools
import unittest

from kindtells.along import keeps
from kindtells.errors import BadManner, BadNumber, BadTold, Misfit
from kindtells.places import all_known, is_turned, known_of
from kindtells.told import Told, inputs
from kindtells.workers import Place, Thing
from tests.helpers import Case, not_within
from tests.test_along import NOT_TOLD, all_told
from tests.test_manners import NO_MANNERS
from tests.test_told import SIZES, some_told

KNOWING = {"blind": 0, "one": 1, "two": 2}
NOT_KNOWING = NO_MANNERS + ("rank", "either", "least", "ends", "alike", "order")


def plainly_known(told, manner):
    """The first worker of the manner, Places ahead of Things, that tells the function at each input."""
    rows = list(zip(inputs(told.things, told.places), told.tells))
    for place in range(told.places):
        if all(row[place] == value for row, value in rows):
            return Place(told.places, place)
    for thing in range(KNOWING[manner]):
        if all(value == thing for _, value in rows):
            return Thing(told.places, thing)
    return None


class AllKnown(Case):
    def test_all(self):
        for places, manner in itertools.product((1, 2, 3, 4), KNOWING):
            expected = [Place(places, place) for place in range(places)]
            expected += [Thing(places, thing) for thing in range(KNOWING[manner])]
            self.assertEqual(all_known(places, manner), tuple(expected))
            self.assertEqual(all_known(manner=manner, places=places), tuple(expected))

    def test_wrong(self):
        for number in not_within(1, 4):
            self.raises(BadNumber("places"), all_known, number, "blind")
            self.raises(BadNumber("places"), all_known, number, "rank")
        for manner in NOT_KNOWING:
            self.raises(BadManner("manner"), all_known, 2, manner)


class Known(Case):
    def hold_known(self, told):
        for manner in KNOWING:
            if manner != "two" or told.things > 1:
                expected = plainly_known(told, manner)
                found = known_of(told, manner)
                self.assertIs(type(found), type(expected))
                self.assertEqual(found, expected)

    def test_all_over_small_worlds(self):
        for things, places in ((1, 1), (1, 2), (1, 3), (1, 4), (2, 1), (2, 2), (2, 3), (3, 1), (4, 1)):
            for told in all_told(things, places):
                self.hold_known(told)

    def test_some_over_greater_worlds(self):
        for told in all_told(3, 2)[::41]:
            self.hold_known(told)
        for things, places in SIZES:
            for told in some_told(things, places):
                self.hold_known(told)
            if things > 1:
                for worker in all_known(places, "two"):
                    self.hold_known(worker.over(things))
                    tells = list(worker.over(things).tells)
                    tells[-1] = (tells[-1] + 1) % things
                    self.hold_known(Told(things, places, tells))

    def test_over_one_thing(self):
        for places in (1, 2, 3, 4):
            for manner in ("blind", "one"):
                self.assertEqual(known_of(Told(1, places, [0]), manner), Place(places, 0))

    def test_these_alone_keep_over_more_things(self):
        """Blind and one from three things on, two from four things on."""
        for things, places in ((3, 1), (3, 2), (4, 1), (5, 1)):
            for told in all_told(things, places):
                for manner in ("blind", "one") + (("two",) if things > 3 else ()):
                    if keeps(told, manner):
                        self.assertIsNotNone(known_of(told, manner))
        for things, places in ((3, 3), (4, 3), (4, 4), (5, 3)):
            for manner in KNOWING:
                for worker in all_known(places, manner):
                    self.assertIs(keeps(worker.over(things), manner), True)
                    self.assertEqual(known_of(worker.over(things), manner), worker)

    def test_others_keep_over_lesser_worlds(self):
        for places, blind, one in ((1, 1, 2), (2, 2, 8), (3, 8, 128)):
            found = all_told(2, places)
            self.assertEqual(len([told for told in found if keeps(told, "blind")]), blind)
            self.assertEqual(len([told for told in found if keeps(told, "one")]), one)
            self.assertEqual(len([told for told in found if known_of(told, "blind")]), places)
            self.assertEqual(len([told for told in found if known_of(told, "one")]), places + 1)
            self.assertEqual(len([told for told in found if known_of(told, "two")]), places + 2)
        for places, two in ((1, 3), (2, 6)):
            found = [told for told in all_told(3, places) if keeps(told, "two")]
            self.assertEqual(len(found), two)
            self.assertEqual(len([told for told in found if known_of(told, "two")]), places + 2)

    def test_names(self):
        self.assertEqual(known_of(manner="one", told=Told(2, 1, [0, 0])), Thing(1, 0))

    def test_wrong(self):
        for value in NOT_TOLD:
            self.raises(BadTold("told"), known_of, value, "blind")
            self.raises(BadTold("told"), known_of, value, "rank")
        for manner in NOT_KNOWING:
            self.raises(BadManner("manner"), known_of, Told(1, 1, [0]), manner)
        for places in (1, 2, 3, 4):
            self.raises(Misfit("things"), known_of, Told(1, places, [0]), "two")


class Turned(Case):
    def test_all(self):
        for places, many in ((1, 1), (2, 2), (3, 8)):
            found = []
            for told in all_told(2, places):
                plain = all(told.at([thing] * places) == thing for thing in (0, 1))
                plain = plain and all(
                    told.at([1 - thing for thing in row]) == 1 - told.at(row) for row in inputs(2, places))
                self.assertIs(is_turned(told), plain)
                self.assertIs(is_turned(told=told), keeps(told, "blind"))
                found += [told] if plain else []
            self.assertEqual(len(found), many)

    def test_four_places(self):
        half = list(itertools.product((0, 1), repeat=7))
        turned = [(0,) + row + tuple(1 - bit for bit in row[::-1]) + (1,) for row in half]
        self.assertEqual([is_turned(Told(2, 4, row)) for row in turned], [True] * 128)
        for row in turned[::9]:
            for at in range(16):
                bent = row[:at] + (1 - row[at],) + row[at + 1:]
                self.assertIs(is_turned(Told(2, 4, bent)), False)
        self.assertIs(is_turned(Told(2, 4, [1 - bit for bit in turned[5]])), False)

    def test_wrong(self):
        for value in NOT_TOLD:
            self.raises(BadTold("told"), is_turned, value)
        for things, places in ((1, 1), (1, 4), (3, 1), (4, 4), (5, 3)):
            self.raises(Misfit("things"), is_turned, some_told(things, places)[0])


if __name__ == "__main__":
    unittest.main()
