"""Workers: places and known things, at inputs and over worlds."""

import itertools
import unittest

from kindtells.along import keeps
from kindtells.errors import BadNumber, Misfit, NoPlace, NoThing, TooMany
from kindtells.families import Family, family_kept
from kindtells.told import Told, inputs
from kindtells.workers import Place, Thing, Worker
from tests.helpers import GREAT, NOT_LISTS, Case, Odd, not_within

WORKERS = [Place(places, place) for places in range(1, 5) for place in range(places)]
WORKERS += [Thing(places, thing) for places in range(1, 5) for thing in (0, 1)]


def has(worker, things):
    """Whether the world has the thing that the worker tells."""
    return type(worker) is Place or worker.thing < things


def worlds(worker):
    return [things for things in range(1, 6) if has(worker, things) and things ** worker.places <= 256]


class Making(Case):
    def test_attributes(self):
        for places in range(1, 5):
            for place in range(places):
                worker = Place(places, place)
                self.assertEqual([worker.places, worker.place], [places, place])
            for thing in (0, 1):
                worker = Thing(places, thing)
                self.assertEqual([worker.places, worker.thing], [places, thing])
        self.assertEqual([Place(place=1, places=2), Thing(thing=1, places=2)], [Place(2, 1), Thing(2, 1)])

    def test_classes(self):
        self.assertEqual([Place.__bases__, Thing.__bases__], [(Worker,), (Worker,)])
        for of in (Worker, Place, Thing):
            for name in ("at", "over", "__eq__"):
                self.assertIn(name, vars(of))

    def test_equality(self):
        self.all_unlike(WORKERS + [None, 0, (2, 0), "Place", Odd()])
        self.all_equal([Place(3, 1), Place(3, 1)])
        self.all_equal([Thing(3, 1), Thing(3, 1)])

    def test_wrong(self):
        for number in not_within(1, 4):
            for of in (Place, Thing):
                self.raises(BadNumber("places"), of, number, 0)
                self.raises(BadNumber("places"), of, number, None)
        for places in (1, 2, 4):
            for place in not_within(0, places - 1):
                self.raises(NoPlace(place), Place, places, place)
            for thing in not_within(0, 1):
                self.raises(BadNumber("thing"), Thing, places, thing)


class At(Case):
    def test_at(self):
        for worker in WORKERS:
            for things in worlds(worker):
                for row in inputs(things, worker.places):
                    value = row[worker.place] if type(worker) is Place else worker.thing
                    self.assertEqual([worker.at(row, things), worker.at(list(row), things)], [value, value])
        self.assertEqual(Place(4, 3).at(things=5, row=[4, 4, 4, 1]), 1)
        self.assertEqual(Thing(4, 1).at(things=5, row=[4, 4, 4, 4]), 1)

    def test_row_is_wrong(self):
        for worker in (Place(2, 0), Thing(2, 0), Thing(2, 1)):
            for row in NOT_LISTS + ([], (), [0], [0, 0, 0], [0, True], [None, 0], ["0", 0], [[0], 0], [9], [9, None]):
                for things in (3, 1, 0, None):
                    self.raises(BadNumber("row"), worker.at, row, things)

    def test_things_are_wrong(self):
        for worker in (Place(2, 0), Thing(2, 0), Thing(2, 1)):
            for things in not_within(1, 5):
                self.raises(BadNumber("things"), worker.at, [0, 0], things)
                self.raises(BadNumber("things"), worker.at, (9, -1), things)

    def test_row_has_no_thing(self):
        for worker in (Place(2, 0), Thing(2, 0), Thing(2, 1)):
            for row, things, value in (([0, 3], 3, 3), ((-1, 3), 3, -1), ([0, 1], 1, 1), ([GREAT, 9], 5, GREAT)):
                self.raises(NoThing(value), worker.at, row, things)

    def test_no_such_thing(self):
        for places in range(1, 5):
            self.raises(Misfit("things"), Thing(places, 1).at, [0] * places, 1)
            self.assertEqual(Thing(places, 1).at([0] * places, 2), 1)


class Over(Case):
    def test_over(self):
        for worker in WORKERS:
            for things in worlds(worker):
                told = worker.over(things)
                self.assertIs(type(told), Told)
                rows = inputs(things, worker.places)
                self.assertEqual(told, Told(things, worker.places, [worker.at(row, things) for row in rows]))
        self.assertEqual(len(Place(4, 2).over(things=4).tells), 256)

    def test_wrong(self):
        for worker in WORKERS:
            for things in not_within(1, 5):
                self.raises(BadNumber("things"), worker.over, things)

    def test_no_such_thing(self):
        for places in range(1, 5):
            self.raises(Misfit("things"), Thing(places, 1).over, 1)
            self.assertEqual(Thing(places, 0).over(1), Told(1, places, [0]))

    def test_too_many_values(self):
        for worker in (Place(4, 3), Thing(4, 0), Thing(4, 1)):
            self.raises(TooMany("values", 256), worker.over, 5)

    def test_manners_they_keep(self):
        """Places are workers of blind, one and two, the Thing 0 of one and two, the Thing 1 of two."""
        for worker in WORKERS:
            of = ["blind", "one", "two"] if type(worker) is Place else ["one", "two"][worker.thing:]
            for things in worlds(worker)[1 if worlds(worker)[0] == 1 else 0:]:
                told = worker.over(things)
                self.assertEqual([manner for manner in of if keeps(told, manner)], of)
            family = Family([worker.over(things) for things in worlds(worker) if things > 1])
            self.assertEqual([manner for manner in of if family_kept(family, manner)], of)
        self.assertEqual([keeps(Thing(2, 0).over(3), "blind"), keeps(Thing(2, 1).over(3), "one")], [False, False])

    def test_unlike_ones_tell_unlike_functions(self):
        for places, things in itertools.product((1, 2, 3), (2, 3)):
            self.all_unlike([worker.over(things) for worker in WORKERS if worker.places == places])


if __name__ == "__main__":
    unittest.main()
