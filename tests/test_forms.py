"""Forms: lots, values, manners, the turned form, what is made of forms, and which form tells a told function."""

import itertools
import random
import unittest

from kindtells.along import keeps
from kindtells.errors import BadLot, BadManner, BadNumber, BadTold, BadWorker, Misfit, NoThing, TooMany, Twice
from kindtells.families import Family, family_kept
from kindtells.forms import (
    Form, all_forms, bits_of, form_by_bits, form_of, greatest_of, least_of, put)
from kindtells.told import Told, inputs
from kindtells.workers import Place, Worker
from tests.helpers import GREAT, NOT_INTEGERS, NOT_LISTS, Case, Odd, not_within
from tests.test_along import NOT_TOLD, all_told
from tests.test_form_lists import NOT_LOTS, all_lots
from tests.test_manners import NO_MANNERS
from tests.test_told import SIZES, some_told

FORM_MANNERS = ("rank", "either", "least", "ends")
NOT_FORM_MANNERS = NO_MANNERS + ("blind", "one", "two", "alike", "order")
NOT_FORMS = NOT_INTEGERS + (0, 2, Form, Place(2, 0), Told(2, 1, [0, 1]), (2, ((0,),)), [Form(1, [])])


def plain_forms(places):
    """The lists of lots of which none lies within another one, from all lists of lots."""
    found = []
    for many in range(7):
        for lots in itertools.combinations(all_lots(places), many):
            if not any(set(one) < set(other) for one, other in itertools.permutations(lots, 2)):
                found.append(lots)
    return found


def plain_value(lots, row, things):
    leasts = [min([things - 1] + [row[place] for place in lot]) for lot in lots]
    return max([0] + leasts)


def plainly_of(form, manner):
    rank = len(form.lots) > 0 and () not in form.lots
    return {"rank": rank, "either": rank and plainly_turned(form) == set(form.lots),
            "least": () not in form.lots, "ends": True}[manner]


def plainly_turned(form):
    """The lots that share a place with each lot of the form, and have none within that does."""
    sharing = [lot for lot in all_lots(form.places) if all(set(lot) & set(other) for other in form.lots)]
    return {lot for lot in sharing if not any(set(other) < set(lot) for other in sharing)}


def forms(places):
    return all_forms(places, "ends")


class Making(Case):
    def test_all_forms_can_be_made_in_any_order(self):
        chance = random.Random(3)
        for places in (1, 2, 3, 4):
            for lots in plain_forms(places):
                shuffled = [chance.choice((list, tuple))(lot) for lot in lots]
                chance.shuffle(shuffled)
                form = Form(places, chance.choice((list, tuple))(shuffled))
                self.assertEqual([form.places, repr(form.lots)], [places, repr(tuple(sorted(lots)))])
        self.assertEqual(Form(lots=[[1]], places=2), Form(2, ((1,),)))

    def test_is_a_worker(self):
        self.assertTrue(issubclass(Form, Worker))
        for name in ("at", "over", "__eq__"):
            self.assertIn(name, vars(Form))

    def test_what_is_passed_is_copied(self):
        lots = [[2], [0, 1]]
        form = Form(3, lots)
        lots[0].append(1)
        lots.append([1])
        self.assertEqual(form.lots, ((0, 1), (2,)))

    def test_equality(self):
        self.all_unlike(list(forms(1)) + list(forms(2)) + list(forms(3)) + [
            Form(4, []), Form(4, [()]), Place(1, 0), (1, ((0,),)), ((0,),), None, Odd()])
        self.all_equal([Form(3, [(1, 2), (0,)]), Form(3, [[0], [1, 2]]), Form(3, ((0,), (1, 2)))])

    def test_wrong_places(self):
        for number in not_within(1, 4):
            for lots in ([], [(0,)], None, [(0,), (0,)]):
                self.raises(BadNumber("places"), Form, number, lots)

    def test_wrong_lots(self):
        for lots in NOT_LOTS:
            self.raises(BadLot("lots"), Form, 4, lots)
        for places in (1, 2, 3):
            for lots in ([(places,)], [[0, places]], [(0,), (0,), (places,)], [(0,), (0, places)], [(), (), None]):
                self.raises(BadLot("lots"), Form, places, lots)

    def test_lots_told_twice(self):
        for lots, lot in (
                ([(0,), (0,)], (0,)), ([[0], (0,)], (0,)), ([(0,), [0]], [0]), ([(), [1], [], (1,)], []),
                ([(0, 1), (0,), [0, 1], (0,)], [0, 1]), ([(1,), (0, 1), (0,), (1,), (0,)], (1,)), ([()] * 3, ())):
            self.raises(Twice(lot), Form, 2, lots)
            self.raises(Twice(lot), Form, 3, tuple(lots))

    def test_lots_within_lots(self):
        for lots in ([(0,), (0, 1)], [[0, 1], [1]], [(), (0,)], [(0, 1), ()], [(2,), (0,), (0, 1, 2)]):
            self.raises(Misfit("lots"), Form, 3, lots)


class Values(Case):
    def test_at_and_over(self):
        for places in (1, 2, 3):
            for form in forms(places):
                for things in range(1, 6):
                    told = form.over(things)
                    rows = inputs(things, places)
                    plain = [plain_value(form.lots, row, things) for row in rows]
                    self.assertEqual([type(told), told], [Told, Told(things, places, plain)])
                    for row, value in list(zip(rows, plain))[::5]:
                        self.assertEqual([form.at(row, things), form.at(list(row), things)], [value, value])

    def test_four_places(self):
        for form in forms(4)[::12]:
            for things in (1, 2, 3, 4):
                plain = [plain_value(form.lots, row, things) for row in inputs(things, 4)]
                self.assertEqual(form.over(things=things), Told(things, 4, plain))
            self.assertEqual(form.at(row=(4, 0, 3, 1), things=5), plain_value(form.lots, (4, 0, 3, 1), 5))
            self.raises(TooMany("values", 256), form.over, 5)

    def test_without_lots_and_with_the_empty_one(self):
        for places, things in itertools.product((1, 2, 3), (1, 2, 3, 4, 5)):
            self.assertEqual(set(Form(places, []).over(things).tells), {0})
            self.assertEqual(set(Form(places, [()]).over(things).tells), {things - 1})

    def test_over_one_thing_all_tell_the_same(self):
        for places in (1, 2, 3, 4):
            for form in forms(places):
                self.assertEqual(form.over(1), Told(1, places, [0]))

    def test_over_more_things_unlike_ones_tell_unlike_functions(self):
        for places, things in ((1, 2), (2, 2), (3, 2), (4, 2), (2, 3), (3, 3), (1, 5)):
            found = {form.over(things).tells for form in forms(places)}
            self.assertEqual(len(found), len(forms(places)))

    def test_manners_they_keep(self):
        for places in (1, 2, 3):
            for form in forms(places):
                family = Family([form.over(things) for things in (1, 2, 3, 4, 5)])
                for manner in FORM_MANNERS:
                    self.assertIs(bool(family_kept(family, manner)), form.is_of(manner))

    def test_wrong_row(self):
        form = Form(2, [(0, 1)])
        for row in NOT_LISTS + ([], (), [0], [0, 0, 0], [0, True], [None, 0], ["0", 0], [[0], 0], [9], [9, None]):
            for things in (3, 1, 0, None):
                self.raises(BadNumber("row"), form.at, row, things)

    def test_wrong_things(self):
        for form in (Form(2, [(0, 1)]), Form(2, []), Form(2, [()])):
            for things in not_within(1, 5):
                self.raises(BadNumber("things"), form.at, [9, -1], things)
                self.raises(BadNumber("things"), form.over, things)
            for row, things, value in (([0, 3], 3, 3), ((-1, 3), 3, -1), ([0, 1], 1, 1), ([GREAT, 9], 5, GREAT)):
                self.raises(NoThing(value), form.at, row, things)
        for things in not_within(1, 5):
            self.raises(BadNumber("things"), Form(4, []).over, things)


class Manners(Case):
    def test_is_of(self):
        for places in (1, 2, 3, 4):
            for form in forms(places):
                for manner in FORM_MANNERS:
                    self.assertIs(form.is_of(manner), plainly_of(form, manner))
        self.assertIs(Form(1, [(0,)]).is_of(manner="either"), True)

    def test_turned(self):
        for places in (1, 2, 3, 4):
            for form in forms(places):
                turned = form.turned()
                self.assertEqual([type(turned), turned.places], [Form, places])
                self.assertEqual(set(turned.lots), plainly_turned(form))
                self.assertEqual(turned.turned(), form)

    def test_turned_by_its_values(self):
        for places, things in itertools.product((1, 2, 3), (2, 3, 4)):
            for form in forms(places):
                turned = form.turned()
                for row in inputs(things, places):
                    away = [things - 1 - thing for thing in row]
                    self.assertEqual(turned.at(row, things), things - 1 - form.at(away, things))

    def test_wrong_manner(self):
        for manner in NOT_FORM_MANNERS:
            self.raises(BadManner("manner"), Form(2, []).is_of, manner)
            self.raises(BadManner("manner"), all_forms, 2, manner)
            self.raises(BadManner("manner"), form_of, Told(1, 1, [0]), manner)


class All(Case):
    def test_numbers(self):
        for manner, numbers in (
                ("rank", [1, 4, 18, 166]), ("either", [1, 2, 4, 12]), ("least", [2, 5, 19, 167]),
                ("ends", [3, 6, 20, 168])):
            self.assertEqual([len(all_forms(places, manner)) for places in (1, 2, 3, 4)], numbers)

    def test_all(self):
        for places in (1, 2, 3, 4):
            plain = [Form(places, lots) for lots in sorted(tuple(sorted(lots)) for lots in plain_forms(places))]
            for manner in FORM_MANNERS:
                expected = tuple(form for form in plain if plainly_of(form, manner))
                found = all_forms(manner=manner, places=places)
                self.assertEqual([type(found), found], [tuple, expected])

    def test_wrong(self):
        for number in not_within(1, 4):
            self.raises(BadNumber("places"), all_forms, number, "rank")
            self.raises(BadNumber("places"), all_forms, number, "blind")


class Made(Case):
    def test_greatest_and_least(self):
        for places, step in ((1, 1), (2, 1), (3, 3)):
            for one, other in itertools.product(forms(places)[::step], forms(places)):
                greatest, least = greatest_of(one, other), least_of(other=other, one=one)
                self.assertEqual([type(greatest), type(least)], [Form, Form])
                for row in inputs(3, places):
                    both = [one.at(row, 3), other.at(row, 3)]
                    self.assertEqual([greatest.at(row, 3), least.at(row, 3)], [max(both), min(both)])

    def test_greatest_and_least_of_four_places(self):
        chance = random.Random(4)
        for _ in range(60):
            one, other = chance.choice(forms(4)), chance.choice(forms(4))
            pairs = list(zip(one.over(3).tells, other.over(3).tells))
            self.assertEqual(greatest_of(one, other).over(3).tells, tuple(map(max, pairs)))
            self.assertEqual(least_of(one, other).over(3).tells, tuple(map(min, pairs)))

    def test_wrong_two(self):
        form = Form(2, [(0,)])
        for call in (greatest_of, least_of):
            for value in NOT_FORMS:
                self.raises(BadWorker("one"), call, value, form)
                self.raises(BadWorker("one"), call, value, value)
                self.raises(BadWorker("other"), call, form, value)
            self.raises(Misfit("places"), call, form, Form(1, [(0,)]))
            self.raises(Misfit("places"), call, form, Form(3, []))

    def test_put(self):
        chance = random.Random(5)
        for many, places in itertools.product((1, 2, 3, 4), (1, 2, 3)):
            for _ in range(12):
                form = chance.choice(forms(many))
                others = [chance.choice(forms(places)) for _ in range(many)]
                made = put(form, chance.choice((list, tuple))(others))
                self.assertEqual([type(made), made.places], [Form, places])
                for row in inputs(3, places):
                    self.assertEqual(made.at(row, 3), form.at([other.at(row, 3) for other in others], 3))

    def test_put_edges(self):
        for form in forms(2):
            same = put(form, [Form(2, [(0,)]), Form(2, [(1,)])])
            self.assertEqual(same, form)
            self.assertEqual(put(forms=[Form(4, [(2,)])] * 2, form=Form(2, [(0, 1)])), Form(4, [(2,)]))
        self.assertEqual(put(Form(1, []), [Form(4, [(0,)])]), Form(4, []))
        self.assertEqual(put(Form(1, [()]), [Form(4, [(0,)])]), Form(4, [()]))

    def test_put_wrong(self):
        form = Form(2, [(0,)])
        for value in NOT_FORMS:
            self.raises(BadWorker("form"), put, value, [form, form])
            self.raises(BadWorker("form"), put, value, None)
            self.raises(BadWorker("forms"), put, form, [form, value])
            self.raises(BadWorker("forms"), put, form, [value])
        for value in NOT_LISTS + (form, [form, None], [[form, form]], (form, form, Place(2, 0)), [Form]):
            self.raises(BadWorker("forms"), put, form, value)
        for value in ([], (), [form], [form] * 3, [form, Form(1, []), form], [Form(1, [])]):
            self.raises(Misfit("forms"), put, form, value)
        for value in ([form, Form(1, [])], (Form(3, []), form)):
            self.raises(Misfit("places"), put, form, value)


class Of(Case):
    def hold_form(self, told, manner):
        """Held against all forms of the manner; over one thing the place 0 alone is told."""
        expected = [form for form in all_forms(told.places, manner) if form.over(told.things) == told]
        if told.things == 1:
            expected = [Form(told.places, [(0,)])]
        self.assertLess(len(expected), 2)
        self.assertEqual(form_of(told, manner), expected[0] if expected else None)

    def test_against_all_forms(self):
        for things, places in ((1, 1), (1, 2), (1, 3), (1, 4), (2, 1), (2, 2), (2, 3), (3, 1), (4, 1), (5, 1)):
            for told in all_told(things, places)[::1 if things < 5 else 11]:
                for manner in FORM_MANNERS:
                    self.hold_form(told, manner)

    def test_some_over_greater_worlds(self):
        for things, places in SIZES:
            for told in some_told(things, places):
                if places < 4:
                    for manner in FORM_MANNERS:
                        self.hold_form(told, manner)

    def test_each_form_is_found(self):
        for places, worlds in ((1, (2, 3, 5)), (2, (2, 3, 5)), (3, (2, 3, 5)), (4, (2, 3))):
            for form in forms(places):
                for things in worlds:
                    for manner in FORM_MANNERS:
                        found = form_of(form.over(things), manner)
                        self.assertEqual(found, form if form.is_of(manner) else None)
        for form in forms(4)[::20]:
            self.assertEqual(form_of(told=form.over(4), manner="ends"), form)

    def test_what_is_nearly_a_form(self):
        chance = random.Random(6)
        for things, places in ((3, 2), (4, 2), (5, 2), (3, 3), (5, 3), (3, 4), (4, 4)):
            for _ in range(15):
                form = chance.choice(forms(places))
                tells = list(form.over(things).tells)
                at = chance.randrange(len(tells))
                tells[at] = (tells[at] + chance.randrange(1, things)) % things
                self.assertIsNone(form_of(Told(things, places, tells), "ends"))

    def test_forms_alone_keep_over_three_things_or_more(self):
        for things, places in ((3, 1), (3, 2), (4, 1), (5, 1)):
            for manner in FORM_MANNERS:
                found = [told for told in all_told(things, places) if keeps(told, manner)]
                self.assertEqual(len(found), len(all_forms(places, manner)))
                self.assertNotIn(None, [form_of(told, manner) for told in found])

    def test_others_keep_over_two_things(self):
        for places, rank, either, least in ((1, 1, 1, 2), (2, 4, 2, 8), (3, 64, 8, 128)):
            found = all_told(2, places)
            for manner, many in (("rank", rank), ("either", either), ("least", least), ("ends", len(found))):
                self.assertEqual(len([told for told in found if keeps(told, manner)]), many)
                self.assertEqual(
                    len([told for told in found if form_of(told, manner)]), len(all_forms(places, manner)))

    def test_wrong(self):
        for value in NOT_TOLD:
            self.raises(BadTold("told"), form_of, value, "rank")
            self.raises(BadTold("told"), form_of, value, "blind")


class Bits(Case):
    def test_bits(self):
        for places in (1, 2, 3, 4):
            for form in forms(places):
                bits = bits_of(form)
                self.assertEqual([type(bits), bits], [tuple, form.over(2).tells])
                self.assertEqual(form_by_bits(places, list(bits)), form)
        self.assertEqual(form_by_bits(bits=(0, 1), places=1), Form(1, [(0,)]))
        self.assertEqual(bits_of(form=Form(1, [()])), (1, 1))

    def test_all_bits(self):
        """Bits fall if they are 1 at an input, 0 at another one that has 1 wherever this one has."""
        for places, step in ((1, 1), (2, 1), (3, 1), (4, 211)):
            rows = inputs(2, places)
            above = [
                (rows.index(one), rows.index(other)) for one, other in itertools.product(rows, rows)
                if all(a <= b for a, b in zip(one, other))]
            known = {bits_of(form): form for form in forms(places)}
            for bits in list(itertools.product((0, 1), repeat=len(rows)))[::step]:
                if any(bits[one] > bits[other] for one, other in above):
                    self.raises(Misfit("bits"), form_by_bits, places, bits)
                else:
                    self.assertEqual(form_by_bits(places, bits), known[bits])

    def test_wrong(self):
        for value in NOT_FORMS:
            self.raises(BadWorker("form"), bits_of, value)
        for number in not_within(1, 4):
            self.raises(BadNumber("places"), form_by_bits, number, (0, 1))
            self.raises(BadNumber("places"), form_by_bits, number, None)
        for bits in NOT_LISTS + (
                [], (), [0], (0,), [0, 1, 1], [1, 0, 1], [0, 2], [0, -1], [False, True], [0, True], [0, None],
                ["0", "1"], [[0, 1]], [0, GREAT], [0, 1.0], [2, 0]):
            self.raises(BadNumber("bits"), form_by_bits, 1, bits)
        self.raises(BadNumber("bits"), form_by_bits, 4, [1] + [0] * 14)
        self.raises(Misfit("bits"), form_by_bits, 4, [1] + [0] * 15)
        self.raises(Misfit("bits"), form_by_bits, 1, [1, 0])


if __name__ == "__main__":
    unittest.main()
