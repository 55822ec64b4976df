"""Told functions: inputs, values, texts, places in another order."""

import itertools
import unittest

from kindtells.errors import BadNumber, BadText, Misfit, NoPlace, NoThing, TooMany, Twice
from kindtells.told import Told, inputs
from tests.helpers import GREAT, NOT_LISTS, Case, Odd, not_within

SIZES = [(things, places) for things in range(1, 6) for places in range(1, 5) if things ** places <= 256]


def some_told(things, places):
    """Told functions over a world: constant, a place, and such as look at all of the input."""
    rows = list(itertools.product(range(things), repeat=places))
    tellers = (
        lambda row: 0, lambda row: things - 1, lambda row: row[-1], min, max,
        lambda row: sum((at + 2) * thing for at, thing in enumerate(row)) % things)
    return [Told(things, places, [teller(row) for row in rows]) for teller in tellers]


class Inputs(Case):
    def test_inputs(self):
        for things, places in SIZES:
            rows = inputs(things, places)
            self.assertEqual(repr(rows), repr(tuple(itertools.product(range(things), repeat=places))))
        self.assertEqual(inputs(places=2, things=1), ((0, 0),))

    def test_how_many(self):
        self.assertEqual(len(inputs(4, 4)), 256)
        self.assertEqual(len(inputs(5, 3)), 125)
        self.raises(TooMany("values", 256), inputs, 5, 4)

    def test_wrong(self):
        for number in not_within(1, 5):
            self.raises(BadNumber("things"), inputs, number, 1)
            self.raises(BadNumber("things"), inputs, number, number)
        for number in not_within(1, 4):
            self.raises(BadNumber("places"), inputs, 5, number)


class Making(Case):
    def test_attributes(self):
        for things, places in SIZES:
            for told in some_told(things, places):
                made = Told(things, places, list(told.tells))
                self.assertEqual([made.things, made.places], [things, places])
                self.assertEqual([type(made.tells), made.tells], [tuple, told.tells])
        self.assertEqual(Told(tells=[1, 0], places=1, things=2), Told(2, 1, (1, 0)))

    def test_tells_is_copied(self):
        tells = [0, 1]
        told = Told(2, 1, tells)
        tells[0] = 1
        tells.append(1)
        self.assertEqual(told.tells, (0, 1))

    def test_things_and_places_are_wrong(self):
        for number in not_within(1, 5):
            self.raises(BadNumber("things"), Told, number, 1, [0])
            self.raises(BadNumber("things"), Told, number, number, number)
        for number in not_within(1, 4):
            self.raises(BadNumber("places"), Told, 1, number, [0])
            self.raises(BadNumber("places"), Told, 1, number, None)

    def test_tells_is_wrong(self):
        for tells in NOT_LISTS + ([], (0,), [0, 0, 0], [0, None], [True, 0], ["0", 0], [[0], 0], [9, 9, 9], [9, None]):
            self.raises(BadNumber("tells"), Told, 2, 1, tells)
        self.raises(BadNumber("tells"), Told, 5, 4, [0] * 624)
        self.raises(BadNumber("tells"), Told, 5, 4, [0] * 256)
        self.raises(BadNumber("tells"), Told, 4, 4, [0] * 257)
        self.raises(BadNumber("tells"), Told, 4, 4, [0] * 255)

    def test_values_are_no_things(self):
        for things, tells, value in (
                (1, [1], 1), (2, (0, 2), 2), (2, [-1, 2], -1), (3, [0, GREAT, -3], GREAT), (5, [4, 5, 6, 7, 8], 5)):
            self.raises(NoThing(value), Told, things, 1, tells)
        self.raises(NoThing(5), Told, 5, 4, [0] * 624 + [5])

    def test_just_256_values(self):
        self.assertEqual(len(Told(4, 4, [3] * 256).tells), 256)
        self.raises(TooMany("values", 256), Told, 5, 4, [0] * 625)

    def test_equality(self):
        self.all_equal([Told(2, 1, [0, 1]), Told(2, 1, (0, 1)), Told.read("2 1 : 0 1")])
        self.all_unlike([
            Told(2, 1, [0, 1]), Told(2, 1, [1, 1]), Told(2, 2, [0, 1, 0, 1]), Told(1, 1, [0]), Told(1, 2, [0]),
            Told(4, 1, [0, 1, 0, 1]), "2 1 : 0 1", (2, 1, (0, 1)), None, Odd()])


class At(Case):
    def test_at(self):
        for things, places in SIZES:
            for told in some_told(things, places):
                for row, value in zip(inputs(things, places), told.tells):
                    self.assertEqual([told.at(row), told.at(list(row))], [value, value])
        self.assertEqual(Told(2, 1, [1, 0]).at(row=(0,)), 1)

    def test_wrong(self):
        told = Told(3, 2, [0] * 9)
        for row in NOT_LISTS + ([], (), [0], [0, 0, 0], [0, True], (None, 0), ["0", 0], [[0], 0], [9], [9, None]):
            self.raises(BadNumber("row"), told.at, row)
        for row, value in (([0, 3], 3), ((-1, 3), -1), ([GREAT, -1], GREAT), ((2, -GREAT), -GREAT)):
            self.raises(NoThing(value), told.at, row)


class Swapped(Case):
    def test_swapped(self):
        for things, places in ((1, 4), (2, 1), (2, 3), (2, 4), (3, 2), (3, 3)):
            for told in some_told(things, places):
                for order in itertools.permutations(range(places)):
                    self.hold_swapped(told, order)

    def hold_swapped(self, told, order):
        swapped = told.swapped(list(order))
        self.assertEqual([swapped.things, swapped.places], [told.things, told.places])
        for row in inputs(told.things, told.places):
            asked = [None] * told.places
            for place, thing in zip(order, row):
                asked[place] = thing
            self.assertEqual(swapped.at(row), told.at(asked))

    def test_greatest(self):
        told = Told(4, 4, [row[0] for row in inputs(4, 4)])
        self.assertEqual(told.swapped(order=(3, 2, 1, 0)).tells, tuple(row[3] for row in inputs(4, 4)))

    def test_wrong(self):
        told = Told(2, 3, [0] * 8)
        for order in NOT_LISTS + ([0, 1, True], [0, None], [[0], 1, 2], ["0"], [9, None], [0, 0, False]):
            self.raises(BadNumber("order"), told.swapped, order)
        for order, value in (([0, 1, 3], 3), ((-1, 3), -1), ([0, 0, 9], 9), ([GREAT], GREAT), ([0, 1, 2, 3], 3)):
            self.raises(NoPlace(value), told.swapped, order)
        for order, value in (([0, 0], 0), ((2, 1, 1, 2), 1), ([0, 1, 2, 2], 2), ([1, 0, 2, 0, 1], 0)):
            self.raises(Twice(value), told.swapped, order)
        for order in ([], (), [0], [2, 0], (1, 2)):
            self.raises(Misfit("places"), told.swapped, order)


class Texts(Case):
    def test_text_and_read(self):
        for things, places in SIZES:
            for told in some_told(things, places):
                text = f"{things} {places} : " + " ".join(map(str, told.tells))
                self.assertEqual(str(told), text)
                self.assertEqual(Told.read(text), told)
        self.assertEqual(Told(1, 1, [0]).read(text="2 1 : 1 0"), Told(2, 1, [1, 0]))

    def test_no_string(self):
        for value in (None, True, 0, b"1 1 : 0", [], ["1 1 : 0"], ("1", "1"), {}, Told(1, 1, [0]), Told, 1.5):
            self.raises(BadText(0, 0), Told.read, value)

    def test_items_that_cannot_stand(self):
        for text, item in (
                ("", 0), ("0 1 : 0", 0), ("6 1 : 0", 0), ("+1 1 : 0", 0), ("-1 1 : 0", 0), ("01 1 : 0", 0),
                (" 1 1 : 0", 0), ("\n1 1 : 0", 0), ("x", 0), (": 1 1 0", 0), ("\u0661 1 : 0", 0), (f"{GREAT}", 0),
                ("1 0 : 0", 1), ("1 5 : 0", 1), ("5 4 : 0", 1), ("1  1 : 0", 1), ("1 01 : 0", 1), ("1 : 0", 1),
                ("1 +1 : 0", 1), ("1 1: 0", 1), ("2 -1 : 0 1", 1), (f"1 {GREAT}", 1),
                ("1 1 0", 2), ("1 1  : 0", 2), ("1 1 :: 0", 2), ("1 1 :0", 2), ("1 1 1 : 0", 2), ("1 1 = 0", 2),
                ("1 1 : 1", 3), ("1 1 :  0", 3), ("2 1 : 2 0", 3), ("2 1 : x", 3), ("2 1 : :", 3), ("1 1 : 00", 3),
                ("1 1 : 0\n", 3), ("1 1 : -0", 3), ("1 1 : ", 3),
                ("1 1 : 0 ", 4), ("1 1 : 0 0", 4), ("1 1 : 0 \n", 4), ("1 1 : 0  ", 4), ("2 1 : 0 2", 4),
                ("2 1 : 0 -1", 4), ("2 1 : 0 01", 4), ("2 1 : 0 +1", 4), ("2 1 : 0  1", 4), ("2 1 : 0 1 1", 5)):
            self.raises(BadText(0, item), Told.read, text)

    def test_items_that_are_missing(self):
        for text, item in (
                ("1", 1), ("5", 1), ("1 1", 2), ("4 4", 2), ("1 1 :", 3), ("2 2 : 0 1 1", 6), ("2 1 : 1", 4)):
            self.raises(BadText(0, item), Told.read, text)
        text = str(Told(4, 4, [3] * 256))
        self.raises(BadText(0, 258), Told.read, text[:-2])
        self.raises(BadText(0, 259), Told.read, text + " 3")

    def test_each_bent_text_is_another_one_or_none(self):
        for text in ("1 1 : 0", "1 2 : 0", "2 1 : 1 0", "2 2 : 0 1 1 0", "3 1 : 2 0 1"):
            items = text.split(" ")
            for at in range(len(items) + 1):
                for mark in ("0", "1", "2", "3", "4", "5", ":", "", "00", "x", "-1"):
                    self.hold_items(items[:at] + [mark] + items[at:])
                    self.hold_items(items[:at] + [mark] + items[at + 1:])
                self.hold_items(items[:at] + items[at + 1:])
                self.hold_items(items[:at + 1] + items[at:])

    def hold_items(self, items):
        text = " ".join(items)
        wrong = first_wrong(items)
        if wrong is None:
            self.assertEqual(str(Told.read(text)), text)
        else:
            self.raises(BadText(0, wrong), Told.read, text)

    def test_long_texts(self):
        self.raises(BadText(0, 0), Told.read, "1" * 20000)
        self.raises(BadText(0, 4), Told.read, "1 1 :" + " 0" * 9997)
        self.raises(BadText(0, 259), Told.read, "4 4 :" + " 0" * 9997)


def first_wrong(items):
    """The first item that cannot stand, from lists of what can stand at each; None if all can."""
    may = [["1", "2", "3", "4", "5"], [], [":"]]
    at = 0
    while at < len(may):
        if at == 1:
            may[1] = [str(places) for places in range(1, 5) if int(items[0]) ** places <= 256]
        if at == len(items) or items[at] not in may[at]:
            return at
        if at == 2:
            may += [[str(thing) for thing in range(int(items[0]))]] * int(items[0]) ** int(items[1])
        at += 1
    return at if at < len(items) else None


if __name__ == "__main__":
    unittest.main()
