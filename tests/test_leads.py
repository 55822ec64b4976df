"""Leads: their rows, texts, what is led, one behind another."""

import itertools
import unittest

from kindtells.errors import BadLead, BadNumber, BadText, Misfit, NoThing
from kindtells.leads import Lead, idle
from tests.helpers import GREAT, NOT_INTEGERS, NOT_LISTS, Case, Odd, not_within


def some_leads():
    """All leads between worlds of up to three things, and some between greater ones."""
    found = [
        Lead(into, row) for begin in (1, 2, 3) for into in (1, 2, 3)
        for row in itertools.product(range(into), repeat=begin)]
    return found + [Lead(5, [4, 3, 2, 1, 0]), Lead(1, [0] * 5), Lead(5, [4]), Lead(4, [3, 3, 0]), Lead(5, [0] * 4)]


class Making(Case):
    def test_attributes(self):
        for into, row in ((1, [0]), (5, [4]), (1, (0,) * 5), (5, [4, 3, 2, 1, 0]), (3, (2, 2))):
            lead = Lead(into, row)
            self.assertEqual([lead.begin, lead.into, repr(lead.row)], [len(row), into, repr(tuple(row))])
        self.assertEqual(Lead(row=[1], into=2), Lead(2, [1]))

    def test_row_is_copied(self):
        row = [0, 1]
        lead = Lead(2, row)
        row[0] = 1
        self.assertEqual(lead.row, (0, 1))

    def test_into_is_wrong(self):
        for into in not_within(1, 5):
            self.raises(BadNumber("into"), Lead, into, [0])
            self.raises(BadNumber("into"), Lead, into, None)

    def test_row_is_wrong(self):
        for row in NOT_LISTS + ([], (), [0] * 6, (0,) * 9999, [[0]], [(0,)], [0, True], [None], ["0"], [0, 1.0]):
            self.raises(BadNumber("row"), Lead, 2, row)
        self.raises(BadNumber("row"), Lead, 2, [7, None])
        self.raises(BadNumber("row"), Lead, 2, [7] * 6)

    def test_row_has_no_thing(self):
        for into, row, value in (
                (2, [0, 2], 2), (1, [1], 1), (5, (0, 5, 6), 5), (3, [-1], -1), (3, [0, GREAT, -GREAT], GREAT),
                (5, [4, 4, 4, 4, -5], -5)):
            self.raises(NoThing(value), Lead, into, row)

    def test_equality(self):
        self.all_equal([Lead(3, [0, 1]), Lead(3, (0, 1)), Lead.read("0 1 : 3")])
        self.all_unlike([
            Lead(3, [0, 1]), Lead(2, [0, 1]), Lead(3, [1, 0]), Lead(3, [0, 1, 2]), (0, 1), "0 1 : 3", None, Odd()])


class Texts(Case):
    def test_text_and_read(self):
        for lead in some_leads():
            self.assertEqual(str(lead), " ".join([str(thing) for thing in lead.row] + [":", str(lead.into)]))
            self.assertEqual(Lead.read(str(lead)), lead)
            self.assertEqual(lead.read(text=str(lead)), lead)

    def test_no_string(self):
        for value in (None, True, 0, 3, b"0 : 1", [], ["0 : 1"], ("0", ":", "1"), {}, Lead(1, [0]), Lead, 1.5):
            self.raises(BadText(0, 0), Lead.read, value)

    def test_items_that_cannot_stand(self):
        for text, item in (
                ("", 0), (" ", 0), (":", 0), ("5 : 5", 0), ("-1 : 5", 0), ("+1 : 5", 0), ("01 : 5", 0), ("00 : 1", 0),
                ("1.0 : 5", 0), ("x : 5", 0), (" 0 : 1", 0), ("\n0 : 1", 0), ("0\n: 1", 0), ("0\t: 1", 0), ("0: 1", 0),
                ("0:1", 0), ("True : 1", 0), ("\u0660 : 1", 0), ("\u00b2 : 3", 0), ("0,1 : 2", 0), ("(0) : 1", 0),
                (f"{GREAT} : 1", 0),
                ("0  : 1", 1), ("0 5 : 5", 1), ("0 -0 : 1", 1), ("0 :1", 1), ("0 = 1", 1), ("0 :: 1", 1),
                ("0 : 0", 2), ("0 : 6", 2), ("0 : :", 2), ("0 : ", 2), ("0 :  1", 2), ("0 : 1\n", 2), ("0 : 01", 2),
                ("0 : +1", 2), ("0 : -1", 2), ("1 : 1", 2), ("4 : 4", 2), (f"0 : {GREAT}", 2),
                ("0 2 : 2", 3), ("0 1 0 : 1", 4),
                ("0 : 1 ", 3), ("0 : 1 1", 3), ("0 : 1 :", 3), ("0 : 1 \n", 3), ("0 : 1  ", 3),
                ("0 0 0 0 0 0 : 1", 5), ("0 0 0 0 0 0", 5), ("0 0 0 0 0  : 1", 5)):
            self.raises(BadText(0, item), Lead.read, text)

    def test_items_that_are_missing(self):
        for text, item in (
                ("0", 1), ("4 4 4 4", 4), ("0 0 0 0 0", 5), ("0 :", 2), ("0 0 0 0 0 :", 6)):
            self.raises(BadText(0, item), Lead.read, text)

    def test_each_bent_text_is_another_lead_or_none(self):
        marks = ["0", "1", "2", "4", "5", ":", "", "00", "x", "-1"]
        for lead in some_leads()[::3]:
            items = str(lead).split(" ")
            for at in range(len(items) + 1):
                bent = [items[:at] + [mark] + items[at:] for mark in marks]
                bent += [items[:at] + [mark] + items[at + 1:] for mark in marks]
                bent += [items[:at] + items[at + 1:], items[:at + 1] + items[at:]]
                for some in bent:
                    self.hold_text(" ".join(some), some)

    def hold_text(self, text, items):
        """What is read has just this text; what is not fails at the first item that cannot stand."""
        try:
            self.assertEqual(str(Lead.read(text)), text)
        except BadText as error:
            self.assertEqual([error.line, error.item], [0, first_wrong(items)], text)

    def test_long_texts(self):
        self.raises(BadText(0, 5), Lead.read, "0 " * 9999 + "0")
        self.raises(BadText(0, 0), Lead.read, "0" * 20000)
        self.raises(BadText(0, 0), Lead.read, " " * 20000)


def texts_of_all():
    return [
        [str(thing) for thing in row] + [":", str(into)] for into in range(1, 6) for begin in range(1, 6)
        for row in itertools.product(range(into), repeat=begin)]


# All beginnings of texts of leads, so that the first item that cannot stand is plainly counted.
BEGINNINGS = {tuple(items[:many]) for items in texts_of_all() for many in range(len(items) + 1)}


def first_wrong(items):
    """The first item that cannot stand behind those ahead of it, or the number of items."""
    at = 0
    while at < len(items) and tuple(items[:at + 1]) in BEGINNINGS:
        at += 1
    return at


class Leading(Case):
    def test_of(self):
        lead = Lead(5, [4, 0, 2])
        self.assertEqual(repr(lead.of([2, 1, 0, 0])), "(2, 0, 4, 4)")
        self.assertEqual([lead.of(()), lead.of(values=(1,)), len(lead.of([0] * 10000))], [(), (0,), 10000])

    def test_of_is_wrong(self):
        lead = Lead(5, [4, 0, 2])
        for values in NOT_LISTS + ([None], [0, True], [[0]], ["0"], (0, (1,)), [9, None]):
            self.raises(BadNumber("values"), lead.of, values)
        for values, value in (([3], 3), ((0, -1, 9), -1), ([4, 9], 4), ([GREAT], GREAT)):
            self.raises(NoThing(value), lead.of, values)

    def test_then(self):
        for one in some_leads():
            for other in some_leads():
                if one.into == other.begin:
                    both = one.then(other=other)
                    self.assertEqual([both.begin, both.into], [one.begin, other.into])
                    for thing in range(one.begin):
                        self.assertEqual(both.row[thing], other.row[one.row[thing]])
                else:
                    self.raises(Misfit("things"), one.then, other)

    def test_then_is_wrong(self):
        for other in NOT_INTEGERS + (1, "0 : 1", (0,), Lead):
            self.raises(BadLead("other"), Lead(1, [0]).then, other)

    def test_idle(self):
        for things in range(1, 6):
            self.assertEqual(idle(things), Lead(things, list(range(things))))
        self.assertEqual(idle(things=2).row, (0, 1))
        for things in not_within(1, 5):
            self.raises(BadNumber("things"), idle, things)

    def test_idle_changes_nothing(self):
        for lead in some_leads():
            self.assertEqual(idle(lead.begin).then(lead), lead)
            self.assertEqual(lead.then(idle(lead.into)), lead)


if __name__ == "__main__":
    unittest.main()
