"""Which papers show what is made of told functions, and that no bent paper raises an error."""

import itertools
import random
import time
import unittest

from kindtells.along import Kept
from kindtells.check_made import shows_made, shows_makes
from kindtells.errors import BadTold, Misfit, TooMany
from kindtells.made import IsPlace, Lot, Made, Makes, made_of, makes
from kindtells.merged import sort_of
from kindtells.papers import Denial, Paper
from kindtells.told import Told, inputs
from kindtells.workers import Place
from tests.helpers import GREAT, NOT_INTEGERS, NOT_LISTS, Alike, Case, Odd
from tests.test_along import NOT_TOLD, all_told
from tests.test_made import GREAT_TOLD, LONE, MOST, THIRD, plainly_make, plainly_made
from tests.test_merged import is_place
from tests.test_told import SIZES, some_told

ITSELF = [[0, 0, 1, 2], [0, 0, 3, 2]]
STEPS = [(0, 0, 1, 2), (0, 0, 3, 2), (0, 0, 2, 1), (0, 3, 4, 5)]
# Values that cannot stand for a number of what is there, of three places and one step.
NO_NUMBERS = NOT_INTEGERS + (-1, 4, 9, GREAT, -GREAT, "0", (0,), Place(3, 0), MOST)
NO_STEPS = NOT_LISTS + (
    [None], [0], [()], [[]], ["0012"], [(0, 0, 1, 2), None], [[[0, 0, 1, 2]]], Alike(), [Alike()], [(0,)], [(0, 0, 1)],
    [(0, 0, 1, 2, 0)], [(0, 0, 1, 2), (0, 0, 1, 2, 2)], [(1, 0, 1, 2)], [(-1, 0, 1, 2)], [(0, 0, 1, 3)],
    [(0, 3, 3, 3), (0, 0, 1, 2)], [(0, 0, 1, 2), ()], ((0, 0, 1, 2),  "0012"), 0, (0, 0, 1, 2), MOST, [MOST])


class Own:
    """Classes of their own: what they make is none of the papers."""

    class Makes(Makes):
        pass

    class IsPlace(IsPlace):
        pass

    class Made(Made):
        pass

    class Lot(Lot):
        pass

    class Told(Told):
        pass


class MakesPapers(Case):
    def test_what_is_returned(self):
        for told in all_told(2, 1) + all_told(2, 2) + all_told(2, 3)[::3] + all_told(3, 1):
            self.assertIs(shows_makes(told, makes(told)), True)
        for things, places in SIZES:
            for told in some_told(things, places):
                self.assertIs(shows_makes(told, makes(told)), True)
        self.assertIs(shows_makes(value=makes(THIRD), told=THIRD), True)

    def test_all_single_steps(self):
        """For all steps of one row, and all told functions of a sort, it is plain which are right."""
        sorts = [told for places in (1, 2, 3) for told in all_told(2, places) if sort_of(told)]
        for told in (THIRD, MOST, Told(2, 2, [0, 0, 0, 1]), Told(2, 1, [1, 0]), Told(2, 3, [1, 0, 0, 0, 1, 1, 1, 0])):
            for made in sorts:
                for parts in itertools.product(range(made.places), repeat=told.places):
                    steps = ((0,) + parts,)
                    shown = shows_makes(told, Makes(sort_of(made), steps, made))
                    self.assertIs(shown, plainly_make([told], steps, made))

    def test_two_steps(self):
        for parts in itertools.product(range(4), repeat=3):
            steps = ((0, 0, 1, 2), (0,) + parts)
            for made, name in ((MOST, "most"), (LONE, "lone")):
                for told in (THIRD, MOST, LONE):
                    shown = shows_makes(told, Makes(name, [list(step) for step in steps], made))
                    self.assertIs(shown, plainly_make([told], steps, made))

    def test_names(self):
        right = Makes("most", ITSELF, MOST)
        self.assertIs(shows_makes(THIRD, right), True)
        for name in NOT_INTEGERS + (
                0, "lone", "mixes", "moves", "nearly", "Most", "most ", "place", b"most", ("most",), ["most"], MOST, Makes):
            self.assertIs(shows_makes(THIRD, Makes(name, ITSELF, MOST)), False, name)

    def test_no_steps(self):
        for steps in NO_STEPS + ([], ()):
            self.assertIs(shows_makes(THIRD, Makes("most", steps, MOST)), False, steps)
            self.assertIs(shows_makes(MOST, Makes("most", steps, MOST)), False, steps)
        for number in NO_NUMBERS:
            for at in (0, 1, 2):
                step = [0, 0, 3, 2]
                step[at + 1] = number
                self.assertIs(shows_makes(THIRD, Makes("most", [ITSELF[0], step], MOST)), False, number)
        for number in NOT_INTEGERS + (1, -1, GREAT):
            self.assertIs(shows_makes(THIRD, Makes("most", [ITSELF[0], (number, 0, 3, 2)], MOST)), False, number)
            self.assertIs(shows_makes(THIRD, Makes("most", [(number, 0, 1, 2), ITSELF[1]], MOST)), False, number)

    def test_steps_that_are_of_no_use_do_no_harm(self):
        more = [(0, 0, 0, 0), (0, 2, 2, 1), (0, 0, 1, 2), (0, 0, 5, 2)]
        self.assertIs(shows_makes(THIRD, Makes("most", more, MOST)), True)
        self.assertIs(shows_makes(THIRD, Makes("most", more + [(0, 0, 0, 0)], MOST)), False)
        self.assertIs(shows_makes(THIRD, Makes("most", [(0, 0, 0, 7)] + ITSELF, MOST)), False)

    def test_no_functions_of_a_sort(self):
        for made in NOT_TOLD + (Own.Told(2, 3, MOST.tells), (MOST,), Place(3, 0), "2 3 : 0 0 0 1 0 1 1 1"):
            self.assertIs(shows_makes(THIRD, Makes("most", ITSELF, made)), False, made)
        place = Place(3, 0).over(2)
        for name in ("most", "nearly", None, "place"):
            self.assertIs(shows_makes(MOST, Makes(name, [(0, 0, 0, 1)], place)), False)
            self.assertIs(shows_makes(THIRD, Makes(name, [(0, 0, 1, 2)], THIRD)), False)

    def test_of_other_worlds_and_places(self):
        least = [Told(things, 2, [min(row) for row in inputs(things, 2)]) for things in (1, 2, 3, 4, 5)]
        for told, made in itertools.product(least[1:], repeat=2):
            self.assertIs(shows_makes(told, Makes("mixes", [(0, 0, 1)], made)), told == made)
        # As one of four places the lesser of two is of no sort; as one of two it is, whatever has four places.
        four = Told(2, 4, [min(row) for row in inputs(2, 4)])
        self.assertIs(shows_makes(four, Makes("mixes", [(0, 0, 0, 1, 1)], least[1])), True)
        self.assertIs(shows_makes(four, Makes("mixes", [(0, 0, 1, 0, 1)], least[1])), True)
        self.assertIs(shows_makes(four, Makes("mixes", [(0, 0, 1, 2, 3)], four)), False)
        self.assertIs(shows_makes(four, Makes("mixes", [(0, 0, 1, 2, 1)], least[1])), False)

    def test_places(self):
        for things, places in ((1, 1), (1, 3), (2, 2), (3, 3), (2, 4)):
            for told in some_told(things, places) + [Place(places, place).over(things) for place in range(places)]:
                for place in range(places):
                    self.assertIs(shows_makes(told, IsPlace(place)), is_place(told, place))
                for place in NOT_INTEGERS + (-1, places, GREAT, -GREAT, "0", (0,)):
                    self.assertIs(shows_makes(told, IsPlace(place)), False, place)

    def test_other_papers_and_any_values(self):
        one = Place(1, 0).over(1)
        for value in NOT_INTEGERS + (
                0, MOST, ("most", ITSELF, MOST), Own.Makes("most", ITSELF, MOST), Paper("makes", "most", ITSELF, MOST),
                Denial("isplace", 0), Own.IsPlace(0), Makes, Made(ITSELF), Lot([MOST]), Kept(), "most", Odd(), Alike(),
                IsPlace(None)):
            self.assertIs(shows_makes(THIRD, value), False, value)
            self.assertIs(shows_makes(one, value), False, value)

    def test_errors_whatever_the_value_is(self):
        for value in NOT_TOLD:
            for paper in (None, IsPlace(0), Makes("most", ITSELF, MOST), Makes(1, 2, 3)):
                self.raises(BadTold("told"), shows_makes, value, paper)

    def test_many_steps(self):
        """Ten thousand numbers: a second at most."""
        four = Told(4, 4, [min(row) for row in inputs(4, 4)])
        nearly = Told(4, 4, [max(row) if len(set(row)) == 4 else row[0] for row in inputs(4, 4)])
        steps = [(0, 0, 1, 2, 3)] * 1660
        begin = time.process_time()
        self.assertIs(shows_makes(nearly, Makes("nearly", steps, nearly)), True)
        self.assertIs(shows_makes(four, Makes("nearly", steps, nearly)), False)
        self.assertLess(time.process_time() - begin, 3)


class MadePapers(Case):
    def test_what_is_returned(self):
        for told in all_told(2, 3)[::5]:
            if plainly_made(2, [told]):
                for wished in (told, MOST, LONE, Place(3, 2).over(2), Told(2, 3, [0] * 8)):
                    self.assertIs(shows_made([told], wished, made_of([told], wished)), True)
        paper = made_of([THIRD], LONE)
        self.assertIs(shows_made(value=paper, wished=LONE, functions=(THIRD,)), True)

    def test_random_steps(self):
        chance = random.Random(91)
        functions = [THIRD, MOST]
        right = 0
        for _ in range(400):
            steps = [
                (chance.randrange(2), *[chance.randrange(3 + at) for _ in range(3)]) for at in range(chance.randrange(1, 5))]
            for wished in (MOST, LONE, THIRD, Place(3, 0).over(2)):
                plain = plainly_make(functions, tuple(steps), wished)
                self.assertIs(shows_made(functions, wished, Made([list(step) for step in steps])), plain)
                right += plain
        self.assertGreater(right, 50)

    def test_without_steps(self):
        for place in range(3):
            for things, told in ((2, LONE), (3, Place(3, 1).over(3))):
                wished = Place(3, place).over(things)
                self.assertIs(shows_made([told], wished, Made(())), True)
                self.assertIs(shows_made([told], wished, Made([])), True)
        for wished in (MOST, LONE, Told(2, 3, [0] * 8)):
            self.assertIs(shows_made([LONE], wished, Made(())), False)
        # A place may be made by steps, too.
        self.assertIs(shows_made([MOST], Place(3, 1).over(2), Made([(0, 1, 1, 2)])), True)
        self.assertIs(shows_made([MOST], Place(3, 1).over(2), Made([(0, 1, 0, 2)])), False)

    def test_no_steps(self):
        for steps in NO_STEPS:
            for wished in (MOST, Place(3, 0).over(2)):
                if not (isinstance(steps, (list, tuple)) and len(steps) == 0):
                    self.assertIs(shows_made([THIRD], wished, Made(steps)), False, steps)
        for at in range(1, 4):
            for number in NO_NUMBERS:
                step = [0, 0, 3, 2]
                step[at] = number
                self.assertIs(shows_made([THIRD], MOST, Made([ITSELF[0], step])), False, number)
        for number in NOT_INTEGERS + (2, -1, GREAT):
            self.assertIs(shows_made([THIRD, THIRD], MOST, Made([ITSELF[0], (number, 0, 3, 2)])), False, number)
        for number in (0, 1):
            self.assertIs(shows_made([THIRD, THIRD], MOST, Made([ITSELF[0], (number, 0, 3, 2)])), True)

    def test_bent_lots(self):
        lot = list(made_of([MOST], LONE).functions)
        self.assertIs(shows_made([MOST], LONE, Lot(lot)), True)
        for bent in (
                lot[:-1], lot[1:], lot + [LONE], lot[::-1], lot + lot[-1:], lot[:1] + lot, [], lot[1:] + lot[:1],
                [LONE] + lot[1:], lot[:3] + [LONE], [told.tells for told in lot], [str(told) for told in lot],
                lot[:3] + [Own.Told(2, 3, lot[3].tells)], [Alike()] * 4, lot[:3] + [Alike()], [lot], lot[:3] + [None],
                sorted(lot[1:] + [Told(2, 3, [0] * 8)], key=str), [Place(3, 0)] * 4, lot[:2] + [lot[2:]]):
            self.assertIs(shows_made([MOST], LONE, Lot(bent)), False)
            self.assertIs(shows_made([MOST], LONE, Lot(tuple(bent))), False)
        for bent in NOT_INTEGERS + (0, 4, "abcd", {at: told for at, told in enumerate(lot)}, LONE, MOST, range(4)):
            self.assertIs(shows_made([MOST], LONE, Lot(bent)), False, bent)

    def test_a_lot_where_the_wished_one_is_made(self):
        for wished in (MOST, LONE, Place(3, 0).over(2)):
            found = [Told(2, 3, tells) for tells in plainly_made(2, [THIRD])]
            self.assertIs(shows_made([THIRD], wished, Lot(found)), False)
            self.assertIs(shows_made([THIRD], Told(2, 3, [0] * 8), Lot(found)), True)
            self.assertIs(shows_made([THIRD], wished, Lot([told for told in found if told != wished])), False)

    def test_other_papers_and_any_values(self):
        lot = made_of([MOST], LONE).functions
        for value in NOT_INTEGERS + (
                0, lot, ITSELF, Own.Made(ITSELF), Own.Lot(lot), Paper("made", ITSELF), Denial("lot", lot), Made, Lot,
                Makes("most", ITSELF, MOST), IsPlace(0), Kept(), Odd(), Alike(), "made", Denial("made", ())):
            self.assertIs(shows_made([THIRD], MOST, value), False, value)
            self.assertIs(shows_made([MOST], LONE, value), False, value)
            self.assertIs(shows_made([MOST], Place(3, 0).over(2), value), False, value)

    def test_errors_whatever_the_value_is(self):
        several = Told(2, 3, [1] * 7 + [0])
        for paper in (None, Made(()), Made(ITSELF), Lot(()), Lot(None), Made([(0, 0, 1, 2)])):
            for value in NOT_TOLD + ([], [MOST] * 4, [MOST, None], MOST, [Alike()]):
                self.raises(BadTold("functions"), shows_made, value, None, paper)
            for value in NOT_TOLD:
                self.raises(BadTold("wished"), shows_made, [MOST], value, paper)
            self.raises(Misfit("places"), shows_made, [Told(3, 2, [0] * 9)], MOST, paper)
            self.raises(Misfit("places"), shows_made, [MOST], Told(4, 1, [0] * 4), paper)
            self.raises(Misfit("things"), shows_made, [MOST], GREAT_TOLD, paper)
            self.raises(Misfit("things"), shows_made, [several], GREAT_TOLD, paper)
            for wished in (several, MOST, Place(3, 0).over(2)):
                self.raises(TooMany("functions", 30), shows_made, [several], wished, paper)


if __name__ == "__main__":
    unittest.main()
