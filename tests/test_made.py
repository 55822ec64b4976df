"""What told functions make: one of a sort, and all of three places."""

import functools
import itertools
import random
import time
import unittest

from kindtells.along import keeps
from kindtells.blocks import Blocks, blocks_of
from kindtells.errors import BadTold, Misfit, TooMany
from kindtells.forms import all_forms, form_of
from kindtells.made import IsPlace, Lot, Made, Makes, made_of, makes
from kindtells.manners import MANNERS
from kindtells.merged import sort_of
from kindtells.papers import Denial, Paper
from kindtells.told import Told, inputs
from kindtells.workers import Place
from tests.helpers import NOT_LISTS, Alike, Case
from tests.test_along import NOT_TOLD, all_told
from tests.test_blocks import all_blocks
from tests.test_merged import EIGHT_WAYS, is_place, nearly_place, told_of_ways
from tests.test_told import SIZES, some_told

THIRD = Told(2, 3, [0, 1, 0, 0, 1, 1, 0, 1])
MOST, LONE = Told(2, 3, [0, 0, 0, 1, 0, 1, 1, 1]), Told(2, 3, [0, 1, 1, 0, 1, 0, 0, 1])
# Of three things and places: what no worker of alike or of rank tells.
GREAT_TOLD = Told(3, 3, [2] * 27)


def plain_value(functions, steps, number, places, row):
    """What a place or a step tells at an input."""
    if number < places:
        return row[number]
    step = steps[number - places]
    return functions[step[0]].at([plain_value(functions, steps, part, places, row) for part in step[1:]])


def plainly_steps(functions, steps, places):
    """Whether these are steps: of numbers of functions, and of places and earlier steps."""
    return all(
        type(step) is tuple and 0 <= step[0] < len(functions) and len(step) == 1 + functions[step[0]].places
        and all(0 <= part < places + at for part in step[1:]) for at, step in enumerate(steps))


def plainly_make(functions, steps, wished):
    """Whether these are steps, and the last of them makes the wished function."""
    if not steps or not plainly_steps(functions, steps, wished.places):
        return False
    last = wished.places + len(steps) - 1
    return all(
        plain_value(functions, steps, last, wished.places, row) == wished.at(row)
        for row in inputs(wished.things, wished.places))


def plainly_made(things, functions):
    """The values of all of three places that are made, ascending; None if there are more than thirty."""
    return closed_values(things, tuple(sorted({told.tells for told in functions})))


@functools.lru_cache(None)
def closed_values(things, functions):
    rows = list(itertools.product(range(things), repeat=3))
    index = {row: at for at, row in enumerate(rows)}
    known = {tuple(row[place] for row in rows) for place in range(3)}
    while len(known) <= 30:
        new = set()
        for function in functions:
            for parts in itertools.product(sorted(known), repeat=3):
                tells = tuple([function[index[row]] for row in zip(*parts)])
                if tells not in known:
                    new.add(tells)
                    if len(known) + len(new) > 30:
                        return None
        if not new:
            return sorted(known)
        known |= new
    return None


def lot_of(functions):
    """The values of the Lot, where GREAT_TOLD is not made."""
    return [told.tells for told in made_of(functions, GREAT_TOLD).functions]


class MakesSorts(Case):
    def hold_makes(self, told):
        paper = makes(told)
        places = [place for place in range(told.places) if is_place(told, place)]
        if places:
            self.assertEqual([type(paper), paper.place], [IsPlace, places[0]])
            return
        self.assertIs(type(paper), Makes)
        self.assertEqual([type(paper.told), paper.told.things], [Told, told.things])
        self.assertEqual([type(paper.name), sort_of(paper.told)], [str, paper.name])
        self.assertTrue(plainly_make([told], paper.steps, paper.told))
        self.assertEqual(makes(told), paper)

    def test_all_over_small_worlds(self):
        for things, places in ((1, 1), (1, 2), (1, 3), (1, 4), (2, 1), (2, 2), (2, 3), (3, 1), (4, 1)):
            for told in all_told(things, places):
                self.hold_makes(told)

    def test_two_places_over_three_things(self):
        for told in all_told(3, 2)[::19]:
            self.hold_makes(told)

    def test_four_places_over_two_things(self):
        chance = random.Random(81)
        for _ in range(150):
            self.hold_makes(Told(2, 4, [0] + [chance.randrange(2) for _ in range(14)] + [1]))

    def test_eight_ways(self):
        chance = random.Random(82)
        for things in (2, 3, 4, 5):
            for ways in EIGHT_WAYS:
                told = told_of_ways(things, ways, chance)
                self.hold_makes(told)
                if sum(ways) == 1:
                    self.assertEqual(makes(told).name, "most")

    def test_four_places_of_which_two_stand_alike(self):
        """What needs several mergings: told functions of three places that look at one of four places not at all."""
        chance = random.Random(83)
        for things in (2, 3, 4):
            for ways in EIGHT_WAYS:
                told = told_of_ways(things, ways, chance)
                for left in range(4):
                    rows = [row[:left] + row[left + 1:] for row in inputs(things, 4)]
                    self.hold_makes(Told(things, 4, [told.at(row) for row in rows]))

    def test_nearly(self):
        chance = random.Random(84)
        for things, places in ((3, 3), (4, 4), (5, 3)):
            for place in range(places):
                told = nearly_place(things, places, place, chance)
                self.hold_makes(told)
                self.assertEqual([makes(told).name, makes(told).told], ["nearly", told])

    def test_some_of_each_size(self):
        chance = random.Random(85)
        for things, places in SIZES:
            for told in some_told(things, places) + [
                    Told(things, places, [chance.choice(row) for row in inputs(things, places)])]:
                self.hold_makes(told)

    def test_places(self):
        for things, places in SIZES:
            for place in range(places):
                told = Place(places, place).over(things)
                self.assertEqual(makes(told=told), IsPlace(0 if things == 1 else place))

    def test_wrong(self):
        for value in NOT_TOLD:
            self.raises(BadTold("told"), makes, value)


class MadeOf(Case):
    def hold_made(self, functions, wished, found):
        """found: the values of all that are made, ascending, or None if they are too many."""
        if found is None:
            self.raises(TooMany("functions", 30), made_of, functions, wished)
            return
        paper = made_of(functions, wished)
        self.assertEqual(paper, made_of(tuple(functions), wished))
        if wished.tells not in found:
            self.assertEqual([type(paper), type(paper.functions)], [Lot, tuple])
            self.assertEqual(paper.functions, tuple(Told(wished.things, 3, tells) for tells in found))
        elif any(is_place(wished, place) for place in range(3)):
            self.assertEqual(paper, Made(()))
        else:
            self.assertIs(type(paper), Made)
            self.assertTrue(plainly_make(functions, paper.steps, wished))

    def test_each_of_two_things_alone(self):
        for told in all_told(2, 3):
            found = plainly_made(2, [told])
            for wished in (told, MOST, LONE, THIRD, Place(3, 1).over(2), Told(2, 3, [0] * 8), Told(2, 3, [0, 1] * 4)):
                self.hold_made([told], wished, found)

    def test_all_that_are_made(self):
        for told in (THIRD, MOST, LONE, Told(2, 3, [min(row) for row in inputs(2, 3)])):
            found = plainly_made(2, [told])
            for tells in found:
                self.hold_made([told], Told(2, 3, tells), found)

    def test_some_together_over_two_things(self):
        chance = random.Random(86)
        small = [told for told in all_told(2, 3) if plainly_made(2, [told])]
        for many in (2, 3):
            for _ in range(30):
                functions = [chance.choice(small) for _ in range(many)]
                found = plainly_made(2, functions)
                for wished in (functions[0], MOST, chance.choice(small)):
                    self.hold_made(functions, wished, found)

    def test_places_make_places_alone(self):
        for things in (2, 3):
            places = [Place(3, place).over(things) for place in range(3)]
            for many in (1, 2, 3):
                for functions in itertools.product(places, repeat=many):
                    lot = made_of(list(functions), Told(things, 3, [0] * things ** 3))
                    self.assertEqual(lot, Lot(places))

    def test_told_twice_and_places_beside(self):
        place = Place(3, 1).over(2)
        found = plainly_made(2, [THIRD])
        for functions in ([THIRD, THIRD], [place, THIRD], [THIRD, place, THIRD], (place, place, THIRD)):
            for wished in (MOST, LONE, THIRD, place, Told(2, 3, [0] * 8)):
                self.hold_made(functions, wished, found)

    def test_lots_of_alike(self):
        """Just six lots; nine of the 24 make all."""
        alike = [blocks.over(3) for blocks in all_blocks(3)]
        chance = random.Random(87)
        lots = {tuple(lot_of([told])) for told in alike}
        self.assertEqual(len([told for told in alike if len(lot_of([told])) == 24]), 9)
        for one, other in itertools.combinations(alike, 2):
            lots.add(tuple(lot_of([one, other])))
        self.assertEqual(sorted(len(lot) for lot in lots), [3, 6, 9, 12, 12, 24])
        for lot in lots:
            for tells in lot:
                self.assertIsNotNone(blocks_of(Told(3, 3, tells)))
        for _ in range(4):
            functions = chance.sample(alike, chance.randrange(1, 4))
            self.assertEqual(lot_of(functions), plainly_made(3, functions))
            self.hold_made(functions, chance.choice(alike), plainly_made(3, functions))

    def test_lots_of_rank(self):
        """Nine lots; none of the 18 makes all."""
        rank = [form.over(3) for form in all_forms(3, "rank")]
        chance = random.Random(88)
        lots = {tuple(lot_of([told])) for told in rank}
        self.assertLess(max(len(lot) for lot in lots), 18)
        for one, other in itertools.combinations(rank, 2):
            lots.add(tuple(lot_of([one, other])))
        self.assertEqual(sorted(len(lot) for lot in lots), [3, 4, 7, 7, 10, 10, 11, 11, 18])
        for lot in lots:
            for tells in lot:
                self.assertIsNotNone(form_of(Told(3, 3, tells), "rank"))
        for _ in range(6):
            functions = chance.sample(rank, chance.randrange(1, 4))
            self.hold_made(functions, chance.choice(rank), plainly_made(3, functions))

    def test_keeps_what_is_kept(self):
        for told in (THIRD, MOST, LONE, Blocks(3, [0, 1, 1, 0, 2]).over(3)):
            kept = [manner for manner in MANNERS if keeps(told, manner)]
            wished = Told(told.things, 3, [told.things - 1] * told.things ** 3)
            for made in made_of([told], wished).functions:
                self.assertTrue(all(keeps(made, manner) for manner in kept))

    def test_just_thirty(self):
        """Functions that look at one place: of some just thirty are made, of others two more, or three."""
        def looking(*rows):
            return [Told(3, 3, [row[asked[0]] for asked in inputs(3, 3)]) for row in rows]
        for rows in (((0, 0, 1), (1, 2, 1)), ((1, 2, 1), (0, 0, 1), (1, 2, 1))):
            functions = looking(*rows)
            least = Told(3, 3, [min(asked) for asked in inputs(3, 3)])
            self.assertEqual(len(made_of(functions, least).functions), 30)
            for wished in (functions[0], functions[1], GREAT_TOLD, least, Place(3, 2).over(3), looking((1, 0, 2))[0]):
                self.hold_made(functions, wished, plainly_made(3, functions))
        for rows in (((0, 0, 1), (2, 1, 0)), ((0, 0, 2), (0, 1, 0), (1, 0, 2))):
            for wished in (looking(*rows)[0], GREAT_TOLD, Place(3, 1).over(3)):
                self.raises(TooMany("functions", 30), made_of, looking(*rows), wished)
        shift = Told(3, 3, [(row[0] + 1) % 3 for row in inputs(3, 3)])
        found = plainly_made(3, [shift])
        self.assertEqual(len(found), 9)
        for wished in (shift, GREAT_TOLD, Place(3, 2).over(3), Told(3, 3, found[4])):
            self.hold_made([shift], wished, found)

    def test_too_many_whatever_is_wished(self):
        several = Told(2, 3, [1] * 7 + [0])
        for wished in (several, MOST, Place(3, 0).over(2), Told(2, 3, [0] * 8)):
            self.raises(TooMany("functions", 30), made_of, [several], wished)
            self.raises(TooMany("functions", 30), made_of, [MOST, LONE, several], wished)

    def test_wrong(self):
        for value in NOT_TOLD + NOT_LISTS + (
                [], (), [MOST] * 4, [None], [MOST, None], MOST, [[MOST]], [Told], {0: MOST}, [MOST, Place(3, 0)], [Alike()],
                (MOST.tells,), "abc"):
            self.raises(BadTold("functions"), made_of, value, None)
            self.raises(BadTold("functions"), made_of, value, MOST)
        for value in NOT_TOLD + ([MOST], (MOST,)):
            self.raises(BadTold("wished"), made_of, [MOST], value)
            self.raises(BadTold("wished"), made_of, [Told(1, 1, [0]), Told(2, 1, [0, 1])], value)
        least, one, four = Told(2, 2, [0, 0, 0, 1]), Told(1, 3, [0]), Told(4, 3, [0] * 64)
        for functions, wished in (
                ([least], MOST), ([MOST], least), ([MOST, least], MOST), ([least], least), ([least], Told(3, 2, [0] * 9)),
                ([one], Told(1, 2, [0])), ([four, MOST, Told(2, 4, [0] * 16)], GREAT_TOLD), ([MOST], Told(4, 1, [0] * 4))):
            self.raises(Misfit("places"), made_of, functions, wished)
        for functions, wished in (
                ([one], one), ([four], four), ([MOST], GREAT_TOLD), ([GREAT_TOLD], MOST), ([MOST, GREAT_TOLD], MOST),
                ([MOST, one], MOST), ([Told(5, 3, [0] * 125)], Told(5, 3, [0] * 125)), ([MOST], four), ([four], MOST),
                ([Told(2, 3, [1] * 7 + [0])], GREAT_TOLD)):
            self.raises(Misfit("things"), made_of, functions, wished)
        self.assertEqual(made_of(wished=MOST, functions=[MOST]).word, "made")

    def test_is_not_slow(self):
        """Three functions over three things: some milliseconds here, a second for all of these at most."""
        alike = [blocks.over(3) for blocks in all_blocks(3)]
        rank = [form.over(3) for form in all_forms(3, "rank")]
        begin = time.process_time()
        for at in range(15):
            made_of([alike[at], alike[at + 3], alike[at + 6]], GREAT_TOLD)
            made_of([rank[at], rank[at + 1], rank[at + 2]], GREAT_TOLD)
        self.assertLess(time.process_time() - begin, 3)


class Papers(Case):
    def test_words_and_parts(self):
        for paper, word, parts, truth in (
                (Makes("a", [[0]], None), "makes", ("a", ((0,),), None), True), (IsPlace([0]), "isplace", ((0,),), False),
                (Made([[0, [1]]]), "made", (((0, (1,)),),), True), (Lot([MOST, [1]]), "lot", ((MOST, (1,)),), False)):
            self.assertEqual([paper.word, paper.parts, bool(paper)], [word, parts, truth])
        paper = Makes(told=MOST, steps=[[0, 1]], name=["x"])
        self.assertEqual([paper.name, paper.steps, paper.told], [("x",), ((0, 1),), MOST])
        self.assertEqual([IsPlace(place=[1]).place, Made(steps=[]).steps, Lot(functions=[MOST]).functions], [(1,), (), (MOST,)])
        self.assertEqual([of.__bases__ for of in (Makes, Made, IsPlace, Lot)], [(Paper,), (Paper,), (Denial,), (Denial,)])
        self.all_unlike([Made(()), Lot(()), Paper("made", ()), Denial("lot", ()), IsPlace(0), IsPlace(1), Made([[0]])])


if __name__ == "__main__":
    unittest.main()
