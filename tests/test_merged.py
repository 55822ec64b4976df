"""Told functions with two places merged, and the sorts of told functions."""

import itertools
import random
import unittest

from kindtells.along import keeps
from kindtells.errors import BadTold, NoPlace, Twice
from kindtells.manners import MANNERS
from kindtells.merged import merged, sort_of
from kindtells.told import Told, inputs
from kindtells.workers import Place
from tests.helpers import GREAT, Case, not_within
from tests.test_along import NOT_TOLD, all_told
from tests.test_told import SIZES, some_told

EIGHT_WAYS = list(itertools.product((True, False), repeat=3))


def is_place(told, place):
    return all(told.at(row) == row[place] for row in inputs(told.things, told.places))


def is_a_place(told):
    return any(is_place(told, place) for place in range(told.places))


def plainly_merged(told, one, other):
    """Asked at an input of one place less: the lesser place's thing stands at the greater one, too."""
    lesser, greater = sorted((one, other))
    tells = []
    for row in inputs(told.things, told.places - 1):
        asked = list(row)
        asked.insert(greater, row[lesser])
        tells.append(told.at(asked))
    return Told(told.things, told.places - 1, tells)


def plain_sorts(told):
    """All sorts that a told function is of, as the document tells them."""
    if is_a_place(told):
        return []
    rows = inputs(told.things, told.places)
    like = [row for row in rows if len(set(row)) < told.places]
    most = told.places == 3 and all(told.at(row) == max(row, key=row.count) for row in like)
    lone = told.places == 3 and all(told.at(row) == min(row, key=row.count) for row in like)
    nearly = told.places > 2 and any(all(told.at(row) == row[place] for row in like) for place in range(told.places))
    mixes = told.places == 2 and all(told.at((thing, thing)) == thing for thing in range(told.things))
    sorts = {"moves": told.places == 1, "mixes": mixes, "most": most, "lone": lone, "nearly": nearly}
    return [name for name, right in sorts.items() if right]


def told_of_ways(things, ways, chance):
    """A told function of three places all of whose mergings are places: at x x y, x y x, y x x it tells x or y."""
    tells = []
    for row in inputs(things, 3):
        pairs = ((0, 1, 2), (0, 2, 1), (1, 2, 0))
        like = [(way, pair) for way, pair in zip(ways, pairs) if row[pair[0]] == row[pair[1]]]
        if like:
            way, pair = like[0]
            tells.append(row[pair[0]] if way else row[pair[2]])
        else:
            tells.append(chance.randrange(things))
    return Told(things, 3, tells)


def nearly_place(things, places, place, chance):
    """A told function that tells what stands at this place where two places or more have the same thing."""
    return Told(things, places, [
        row[place] if len(set(row)) < places else chance.randrange(things) for row in inputs(things, places)])


class Merged(Case):
    def test_all_pairs(self):
        chance = random.Random(71)
        for things, places in SIZES:
            found = some_told(things, places)
            found.append(Told(things, places, [chance.randrange(things) for _ in inputs(things, places)]))
            for told in found:
                for one, other in itertools.permutations(range(places), 2):
                    self.assertEqual(merged(told, one, other), plainly_merged(told, one, other))
        for told in all_told(2, 2) + all_told(2, 3)[::5]:
            for one, other in itertools.permutations(range(told.places), 2):
                self.assertEqual(merged(other=other, told=told, one=one), plainly_merged(told, one, other))

    def test_places_stay_places(self):
        for things, places in ((2, 4), (3, 3), (4, 4), (1, 2)):
            for one, other in itertools.permutations(range(places), 2):
                lesser, greater = sorted((one, other))
                for place in range(places):
                    stands = lesser if place == greater else place - (place > greater)
                    self.assertEqual(merged(Place(places, place).over(things), one, other),
                                     Place(places - 1, stands).over(things))

    def test_keeps_what_is_kept(self):
        for told in all_told(2, 3)[::9] + some_told(3, 3):
            for one, other in itertools.combinations(range(3), 2):
                made = merged(told, one, other)
                for manner in MANNERS:
                    self.assertTrue(keeps(made, manner) or not keeps(told, manner))

    def test_wrong(self):
        for value in NOT_TOLD:
            self.raises(BadTold("told"), merged, value, None, None)
            self.raises(BadTold("told"), merged, value, 0, 1)
        for things, places in ((1, 1), (2, 1), (2, 3), (4, 4)):
            told = some_told(things, places)[0]
            for place in not_within(0, places - 1) + (GREAT,):
                self.raises(NoPlace(place), merged, told, place, None)
                self.raises(NoPlace(place), merged, told, place, place)
                self.raises(NoPlace(place), merged, told, 0, place)
            for place in range(places):
                self.raises(Twice(place), merged, told, place, place)


class Sorts(Case):
    def hold_sort(self, told):
        sorts = plain_sorts(told)
        self.assertLess(len(sorts), 2)
        self.assertEqual(sort_of(told), sorts[0] if sorts else None)

    def test_all_over_small_worlds(self):
        counts = {}
        for things, places in ((1, 1), (1, 2), (1, 3), (1, 4), (2, 1), (2, 2), (2, 3), (3, 1), (4, 1)):
            for told in all_told(things, places):
                self.hold_sort(told)
                counts[things, places, sort_of(told)] = counts.get((things, places, sort_of(told)), 0) + 1
        self.assertEqual(counts[2, 1, "moves"], 3)
        self.assertEqual(counts[2, 2, "mixes"], 2)
        self.assertEqual([counts[2, 3, "most"], counts[2, 3, "lone"], (2, 3, "nearly") in counts], [1, 1, False])
        self.assertEqual([counts[1, places, None] for places in (1, 2, 3, 4)], [1] * 4)
        self.assertEqual([counts[3, 1, "moves"], counts[4, 1, "moves"]], [26, 255])

    def test_two_places_over_three_things(self):
        found = [Told(3, 2, tells) for tells in itertools.product(range(3), repeat=9) if tells[::4] == (0, 1, 2)]
        self.assertEqual(sorted({str(sort_of(told)) for told in found}), ["None", "mixes"])
        self.assertEqual(len([told for told in found if sort_of(told) == "mixes"]), 729 - 2)
        for told in all_told(3, 2)[::37]:
            self.hold_sort(told)

    def test_eight_ways(self):
        """Of the eight ways at x x y, x y x, y x x five are of a sort, or a place."""
        chance = random.Random(72)
        names = {(True, True, True): "most", (False, False, False): "lone"}
        for things in (2, 3, 4, 5):
            for ways in EIGHT_WAYS:
                for _ in range(3):
                    told = told_of_ways(things, ways, chance)
                    self.hold_sort(told)
                    near = "nearly" if sum(ways) == 2 and not is_a_place(told) else None
                    self.assertEqual(sort_of(told), names.get(ways, near))

    def test_nearly(self):
        chance = random.Random(73)
        for things, places in ((2, 3), (2, 4), (3, 3), (3, 4), (4, 3), (4, 4), (5, 3)):
            for place in range(places):
                told = nearly_place(things, places, place, chance)
                self.hold_sort(told)
                self.assertEqual(sort_of(told), "nearly" if things >= places else None)
                self.assertIsNone(sort_of(Place(places, place).over(things)))

    def test_what_differs_at_one_input(self):
        chance = random.Random(74)
        for things, places in ((3, 3), (4, 4), (4, 3)):
            for told in [nearly_place(things, places, 1, chance)] + [
                    told_of_ways(things, ways, chance) for ways in EIGHT_WAYS if places == 3]:
                for _ in range(12):
                    tells = list(told.tells)
                    tells[chance.randrange(len(tells))] = chance.randrange(things)
                    self.hold_sort(Told(things, places, tells))

    def test_four_places_are_no_most_and_no_lone(self):
        for things in (2, 3, 4):
            for teller in (lambda row: sorted(row)[1], lambda row: min(row[:3], key=row[:3].count)):
                told = Told(things, 4, [teller(row) for row in inputs(things, 4)])
                self.hold_sort(told)
                self.assertIsNone(sort_of(told))

    def test_some_of_each_size(self):
        for things, places in SIZES:
            for told in some_told(things, places):
                self.hold_sort(told)
        self.assertEqual(sort_of(told=Told(2, 1, [1, 1])), "moves")

    def test_wrong(self):
        for value in NOT_TOLD:
            self.raises(BadTold("told"), sort_of, value)


class Facts(Case):
    def test_mergings_of_four_places(self):
        """If all mergings of a told function of four places are places, it is a place, or nearly one."""
        chance = random.Random(75)
        pairs = list(itertools.combinations(range(4), 2))
        for things in (2, 3, 4):
            for place in range(4):
                told = nearly_place(things, 4, place, chance)
                self.assertTrue(all(is_a_place(merged(told, one, other)) for one, other in pairs))
        for told in [Told(2, 4, tells) for tells in itertools.islice(itertools.product((0, 1), repeat=16), 0, None, 11)]:
            if all(is_a_place(merged(told, one, other)) for one, other in pairs):
                self.assertTrue(is_a_place(told) or sort_of(told) == "nearly")

    def test_mergings_of_three_places(self):
        """If all three mergings are places, it is one of the eight ways."""
        for told in all_told(2, 3):
            merges = [is_a_place(merged(told, one, other)) for one, other in itertools.combinations(range(3), 2)]
            ways = [told.at(row) == 0 for row in ((0, 0, 1), (0, 1, 0), (1, 0, 0))]
            self.assertIs(all(merges), told == told_of_ways(2, ways, random))


if __name__ == "__main__":
    unittest.main()
