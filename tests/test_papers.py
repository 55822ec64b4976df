"""Papers: fixed values, truth, word, parts, equality."""

import importlib
import itertools
import pathlib
import unittest

from kindtells.along import Kept, Parting
from kindtells.leads import Lead
from kindtells.papers import Denial, Paper, fixed
from kindtells.told import Told
from kindtells.workers import Place
from tests.helpers import GREAT, NOT_INTEGERS, NOT_LISTS, Case, Odd

# All classes of papers: the parts of each, in their order, and whether it is a denial.
PAPERS = {
    "Kept": ((), False), "Parting": (("lead", "row"), True), "Filled": (("told",), False),
    "Many": (("one", "other"), False), "NoFill": (("row",), True), "Ladder": (("manners", "partings"), False),
    "Same": ((), False), "Unlike": (("told",), True), "Makes": (("name", "steps", "told"), False),
    "IsPlace": (("place",), True), "Made": (("steps",), False), "Lot": (("functions",), True),
    "Program": (("worker",), False), "Alone": ((), True)}
ANY_VALUES = NOT_INTEGERS + (
    0, 1, GREAT, "word", (1, 2), [1, [2, [3]]], ([], ()), [[]], Lead(2, [0, 1]), [Lead(2, [0, 1])], Place(2, 0),
    Told(2, 1, [0, 1]), [Parting(1, [2])], Kept(), ("a", [b"b"]), {"a": [1]}, [None, [True]])


class Fixed(Case):
    def test_lists_become_tuples_all_the_way(self):
        for value, expected in (
                ([], "()"), ([1, 2], "(1, 2)"), ((1, [2, (3, [4])]), "(1, (2, (3, (4,))))"),
                ([[], [[]]], "((), ((),))"), (("a", [None, True]), "('a', (None, True))")):
            self.assertEqual(repr(fixed(value)), expected)
        self.assertEqual(fixed(value=[1]), (1,))

    def test_other_values_stay(self):
        for value in NOT_LISTS:
            self.assertIs(fixed(value), value)
        table = {"a": [1]}
        self.assertIs(fixed([table])[0], table)
        self.assertEqual(table, {"a": [1]})

    def test_what_is_passed_stays_and_is_not_kept(self):
        inner = [1]
        outer = [inner, 2]
        made = fixed(outer)
        inner.append(3)
        outer.append(4)
        self.assertEqual(made, ((1,), 2))

    def test_thirty_deep(self):
        value = 0
        for _ in range(30):
            value = [value]
        made = fixed(value)
        for _ in range(30):
            self.assertIs(type(made), tuple)
            made = made[0]
        self.assertEqual(made, 0)


class Papers(Case):
    def test_word_and_parts(self):
        for of in (Paper, Denial):
            paper = of("note", [1, [2]], None, "x")
            self.assertEqual([paper.word, repr(paper.parts)], ["note", "((1, (2,)), None, 'x')"])
            self.assertEqual(of("").parts, ())
            self.assertEqual([of(word="note").word, of(word="note").parts], ["note", ()])

    def test_truth(self):
        for paper in (Paper("note"), Paper("note", 0), Paper(""), Paper("denial", False), Kept()):
            self.assertIs(bool(paper), True)
        for paper in (Denial("note"), Denial("note", 1), Denial(""), Parting(Lead(1, [0]), [0])):
            self.assertIs(bool(paper), False)

    def test_equal_ones(self):
        self.all_equal([Paper("a", [1, [2]]), Paper("a", (1, (2,))), Paper("a", [1, (2,)])])
        self.all_equal([Denial("a", [1]), Denial("a", (1,))])
        self.all_equal([Parting(1, [2]), Parting(lead=1, row=(2,)), Parting(row=[2], lead=1)])
        self.all_equal([Paper("a", 1), Paper("a", True)])
        self.all_equal([Kept(), Kept()])

    def test_unlike_ones(self):
        self.all_unlike([
            Paper("a"), Paper("b"), Paper("a", 1), Paper("a", 1, 1), Paper("a", (1, 1)), Denial("a"),
            Denial("a", 1), Denial("b"), ("a", 1), "a", None, True, Odd()])
        lead = Lead(2, [0, 1])
        self.all_unlike([
            Kept(), Paper("kept"), Denial("kept"), Parting(lead, (0,)), Denial("parting", lead, (0,)),
            Paper("parting", lead, (0,)), Parting(lead, (1,)), Parting((0,), lead)])

    def test_what_is_passed_is_copied(self):
        row = [0, [1]]
        paper, parting = Paper("a", row), Parting(row, row)
        row[1].append(2)
        row.append(3)
        self.assertEqual([paper.parts, parting.lead, parting.row], [((0, (1,)),), (0, (1,)), (0, (1,))])

    def test_below(self):
        self.assertEqual(Paper.__bases__, (object,))
        self.assertEqual(Denial.__bases__, (Paper,))
        self.assertEqual([Kept.__bases__, Parting.__bases__], [(Paper,), (Denial,)])

    def test_kept_and_parting(self):
        self.assertEqual([Kept().word, Kept().parts], ["kept", ()])
        for lead, row in ((Lead(2, [0, 1]), [0, 1]), (None, True), ([[1]], "row"), (1, ())):
            for paper in (Parting(lead, row), Parting(row=row, lead=lead)):
                self.assertEqual([paper.word, paper.parts], ["parting", (fixed(lead), fixed(row))])
                self.assertEqual([paper.lead, paper.row], [fixed(lead), fixed(row)])

    def test_their_parts_are_needed_and_no_more(self):
        self.assertRaises(TypeError, Kept, 1)
        self.assertRaises(TypeError, Parting, 1)
        self.assertRaises(TypeError, Parting, 1, 2, 3)


def classes():
    """All classes of the package that are below Paper, by name."""
    found = {}
    for path in pathlib.Path(importlib.import_module("kindtells").__file__).parent.glob("*.py"):
        for value in vars(importlib.import_module("kindtells." + path.stem)).values():
            if isinstance(value, type) and issubclass(value, Paper) and value not in (Paper, Denial):
                found[value.__name__] = value
    return found


class AllPapers(Case):
    def test_there_are_just_these(self):
        self.assertEqual(set(classes()), set(PAPERS))

    def test_bases_words_and_truth(self):
        for name, of in classes().items():
            parts, denial = PAPERS[name]
            self.assertEqual(of.__bases__, (Denial if denial else Paper,))
            paper = of(*parts)
            self.assertEqual([paper.word, bool(paper)], [name.lower(), not denial])
            self.assertIs(bool(paper), not denial)

    def test_parts_by_place_and_by_name(self):
        for name, of in classes().items():
            parts = PAPERS[name][0]
            for at in range(len(ANY_VALUES)):
                values = [ANY_VALUES[(at + more) % len(ANY_VALUES)] for more in range(len(parts))]
                for paper in (of(*values), of(**dict(zip(parts, values))), of(**dict(list(zip(parts, values))[::-1]))):
                    self.assertEqual([type(paper), type(paper.parts), len(paper.parts)], [of, tuple, len(parts)])
                    for part, value, kept in zip(parts, values, paper.parts):
                        for found in (getattr(paper, part), kept):
                            self.assertEqual(repr(found), repr(fixed(value)))
                            if not isinstance(value, (list, tuple)):
                                self.assertIs(found, value)

    def test_lists_stand_for_tuples(self):
        for name, of in classes().items():
            parts = PAPERS[name][0]
            inner = [1, (2, [3])]
            values = [[inner, at] for at, _ in enumerate(parts)]
            papers = [of(*values), of(*fixed(values)), of(*[tuple(value) for value in values])]
            inner.append(4)
            self.all_equal(papers)
            for part, kept in zip(parts, papers[0].parts):
                self.assertEqual(repr(getattr(papers[0], part)), repr(kept))
                self.assertEqual(repr(kept[0]), "(1, (2, (3,)))")

    def test_unlike_ones(self):
        found = []
        for name, of in classes().items():
            parts = PAPERS[name][0]
            for values in itertools.product((0, None, (1,)), repeat=len(parts)):
                found.append(of(*values))
            plain = [0] * len(parts)
            found += [Paper(name.lower(), *plain), Denial(name.lower(), *plain), (name.lower(), tuple(plain))]
        self.all_unlike(found + [Odd()])

    def test_of_other_classes(self):
        for name, of in classes().items():
            own = type(name, (of,), {})
            values = [0] * len(PAPERS[name][0])
            self.assertFalse(of(*values) == own(*values))
            self.assertTrue(of(*values) != own(*values))

    def test_their_parts_are_needed_and_no_more(self):
        for name, of in classes().items():
            parts = PAPERS[name][0]
            self.assertRaises(TypeError, of, *([0] * (len(parts) + 1)))
            if parts:
                self.assertRaises(TypeError, of, *([0] * (len(parts) - 1)))


if __name__ == "__main__":
    unittest.main()
