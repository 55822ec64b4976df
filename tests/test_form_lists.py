"""Lists of lots: which have no other one within."""

import itertools
import random
import unittest

from kindtells.errors import BadLot
from kindtells.form_lists import least_lots
from tests.helpers import GREAT, NOT_LISTS, Case

# What is no list of lots of integers from 0 to 3; and of lots of places that are fewer.
NOT_LOTS = NOT_LISTS + (
    [0], (0, 1), [None], ["01"], [(0,), 1], [(0,), None], [[[0]]], [((0,), (1,))], [(1, 0)], [[0, 0]], [(0, 1, 1)],
    [(-1,)], [(0, -1)], [(4,)], [(0, 4)], [(0, 1, 2, 3, 4)], [(GREAT,)], [(True,)], [(False,)], [(0, True)], [(0, 1.0)],
    [(0, None)], [("0",)], [{0}], [{0: 0}], [(0,), {}], [range(2)], [b"\0"], [(0,), ()[:], (3, 2)])


def all_lots(places):
    return [lot for many in range(places + 1) for lot in itertools.combinations(range(places), many)]


def plainly_least(lots):
    unlike = {tuple(lot) for lot in lots}
    return tuple(sorted(lot for lot in unlike if not any(set(other) < set(lot) for other in unlike)))


class Least(Case):
    def test_all_of_three_places(self):
        chance = random.Random(1)
        lots = all_lots(3)
        for choice in itertools.product((False, True), repeat=len(lots)):
            chosen = [lot for lot, taken in zip(lots, choice) if taken]
            chosen += chosen[:chance.randrange(3)]
            chance.shuffle(chosen)
            self.assertEqual(repr(least_lots(chosen)), repr(plainly_least(chosen)))
            self.assertEqual(least_lots(tuple(list(lot) for lot in chosen)), plainly_least(chosen))

    def test_some_of_four_places(self):
        chance = random.Random(2)
        lots = all_lots(4)
        for _ in range(500):
            chosen = [chance.choice(lots[chance.randrange(9):]) for _ in range(chance.randrange(9))]
            self.assertEqual(least_lots(chosen), plainly_least(chosen))
        self.assertEqual(least_lots(lots), ((),))
        self.assertEqual(least_lots(lots[1:]), ((0,), (1,), (2,), (3,)))

    def test_edges(self):
        self.assertEqual([least_lots([]), least_lots(()), least_lots([[]]), least_lots([(), ()])], [(), (), ((),), ((),)])
        self.assertEqual(least_lots(lots=[[3], [2, 3], (3,)]), ((3,),))
        self.assertEqual(least_lots([(0, 1, 2, 3)] * 2000), ((0, 1, 2, 3),))

    def test_what_is_passed_stays(self):
        lots = [[1, 2], [1]]
        least_lots(lots)
        self.assertEqual(lots, [[1, 2], [1]])

    def test_wrong(self):
        for lots in NOT_LOTS:
            self.raises(BadLot("lots"), least_lots, lots)


if __name__ == "__main__":
    unittest.main()
