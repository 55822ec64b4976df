"""Patterns and rankings of rows."""

import itertools
import unittest

from kindtells.errors import BadNumber
from kindtells.patterns import all_patterns, pattern_of
from kindtells.rankings import all_rankings, ranking_of
from tests.helpers import GREAT, NOT_LISTS, Case, not_within

NOT_ROWS = NOT_LISTS + (
    [], (), [0, 0, 0, 0, 0], (1, 2, 3, 4, 5), [True], [0, False], [None], ["0"], [[0]], [(0,), 1], [0, 1.0], [0, None],
    list(range(1000)))


def plain_pattern(row):
    numbers = {}
    return tuple(numbers.setdefault(thing, len(numbers)) for thing in row)


def plain_ranking(row):
    return tuple(len({other for other in row if other < thing}) for thing in row)


class Patterns(Case):
    def test_pattern(self):
        for places in (1, 2, 3, 4):
            for row in itertools.product(range(5), repeat=places):
                self.assertEqual(repr(pattern_of(row)), repr(plain_pattern(row)))
                self.assertEqual(pattern_of(row=list(row)), plain_pattern(row))

    def test_any_integers(self):
        self.assertEqual(pattern_of((GREAT, -GREAT, 0, GREAT)), (0, 1, 2, 0))
        self.assertEqual(pattern_of([-1]), (0,))

    def test_all(self):
        for places, many in ((1, 1), (2, 2), (3, 5), (4, 15)):
            found = all_patterns(places)
            rows = itertools.product(range(places), repeat=places)
            self.assertEqual(repr(found), repr(tuple(sorted({plain_pattern(row) for row in rows}))))
            self.assertEqual(len(found), many)
        self.assertEqual(all_patterns(places=1), ((0,),))

    def test_a_pattern_is_its_own(self):
        for places in (1, 2, 3, 4):
            for pattern in all_patterns(places):
                self.assertEqual(pattern_of(pattern), pattern)


class Rankings(Case):
    def test_ranking(self):
        for places in (1, 2, 3, 4):
            for row in itertools.product(range(5), repeat=places):
                self.assertEqual(repr(ranking_of(row)), repr(plain_ranking(row)))
                self.assertEqual(ranking_of(row=list(row)), plain_ranking(row))

    def test_any_integers(self):
        self.assertEqual(ranking_of((GREAT, -GREAT, 0, GREAT)), (2, 0, 1, 2))
        self.assertEqual(ranking_of([-1]), (0,))

    def test_all(self):
        for places, many in ((1, 1), (2, 3), (3, 13), (4, 75)):
            found = all_rankings(places)
            rows = itertools.product(range(places), repeat=places)
            self.assertEqual(repr(found), repr(tuple(sorted({plain_ranking(row) for row in rows}))))
            self.assertEqual(len(found), many)
        self.assertEqual(all_rankings(places=1), ((0,),))

    def test_a_ranking_is_its_own(self):
        for places in (1, 2, 3, 4):
            for ranking in all_rankings(places):
                self.assertEqual(ranking_of(ranking), ranking)


class Wrong(Case):
    def test_rows(self):
        for row in NOT_ROWS:
            self.raises(BadNumber("row"), pattern_of, row)
            self.raises(BadNumber("row"), ranking_of, row)

    def test_places(self):
        for number in not_within(1, 4):
            self.raises(BadNumber("places"), all_patterns, number)
            self.raises(BadNumber("places"), all_rankings, number)


if __name__ == "__main__":
    unittest.main()
