"""Blocks: values, which one tells a told function, the thing left over, Blocks put into Blocks."""

import itertools
import random
import unittest

from kindtells.along import kept, keeps
from kindtells.blocks import Blocks, blocks_of, left_over, put_blocks
from kindtells.errors import BadNumber, BadTold, BadWorker, Impossible, Misfit, NoThing, TooMany
from kindtells.families import Family, family_kept
from kindtells.forms import Form
from kindtells.patterns import all_patterns, pattern_of
from kindtells.told import Told, inputs
from kindtells.workers import Place, Worker
from tests.helpers import GREAT, NOT_INTEGERS, NOT_LISTS, Case, Odd, not_within
from tests.test_along import NOT_TOLD, all_told
from tests.test_told import SIZES, some_told

NOT_BLOCKS = NOT_INTEGERS + (0, 2, Blocks, Place(2, 0), Form(2, [(0,)]), Told(2, 1, [0, 1]), [Blocks(1, [0])])


def ways(views):
    """All that can be chosen: for each view one of its numbers."""
    return list(itertools.product(*[range(max(view) + 1) for view in views]))


def all_blocks(places):
    return [Blocks(places, chosen) for chosen in ways(all_patterns(places))]


def some_blocks(places, many, seed=0):
    chance = random.Random(seed)
    patterns = all_patterns(places)
    return [Blocks(places, [chance.randrange(max(pattern) + 1) for pattern in patterns]) for _ in range(many)]


def plain_value(blocks, row):
    """The thing at the places that the chosen block of the input's pattern has."""
    pattern = pattern_of(row)
    block = dict(zip(all_patterns(len(row)), blocks.chosen))[pattern]
    found = {thing for thing, number in zip(row, pattern) if number == block}
    assert len(found) == 1
    return found.pop()


def told_by_patterns(things, places, choices):
    """A told function that tells for each pattern the thing of a block, or the thing left over for None."""
    tells = []
    for row in inputs(things, places):
        pattern = pattern_of(row)
        block = choices[pattern]
        rest = [thing for thing in range(things) if thing not in row]
        tells.append(rest[0] if block is None else row[pattern.index(block)])
    return Told(things, places, tells)


def all_alike(things, places):
    """All told functions that keep alike, as the document tells them, each with its patterns that leave over."""
    asked = [pattern for pattern in all_patterns(places) if max(pattern) < things]
    lists = [
        list(range(max(pattern) + 1)) + ([None] if max(pattern) + 1 == things - 1 else []) for pattern in asked]
    for chosen in itertools.product(*lists):
        choices = dict(zip(asked, chosen))
        over = tuple(pattern for pattern in asked if choices[pattern] is None)
        yield told_by_patterns(things, places, choices), over


class Making(Case):
    def test_attributes(self):
        for places in (1, 2, 3):
            for chosen in ways(all_patterns(places)):
                blocks = Blocks(places, list(chosen))
                self.assertEqual([blocks.places, repr(blocks.chosen)], [places, repr(chosen)])
        self.assertEqual(Blocks(chosen=[0, 1], places=2), Blocks(2, (0, 1)))

    def test_is_a_worker(self):
        self.assertTrue(issubclass(Blocks, Worker))
        for name in ("at", "over", "__eq__"):
            self.assertIn(name, vars(Blocks))

    def test_chosen_is_copied(self):
        chosen = [0, 1]
        blocks = Blocks(2, chosen)
        chosen[1] = 0
        self.assertEqual([blocks.chosen, blocks.at((3, 4), 5)], [(0, 1), 4])

    def test_how_many(self):
        counts = []
        for places in (1, 2, 3, 4):
            many = 1
            for pattern in all_patterns(places):
                many *= max(pattern) + 1
            counts.append(many)
        self.assertEqual(counts, [1, 2, 24, 373248])
        self.assertEqual([len(all_blocks(places)) for places in (1, 2, 3)], counts[:3])

    def test_equality(self):
        self.all_unlike(all_blocks(1) + all_blocks(2) + all_blocks(3) + [(1, (0,)), (0,), None, Place(1, 0), Odd()])
        self.all_equal([Blocks(2, [0, 1]), Blocks(2, (0, 1))])

    def test_wrong(self):
        for number in not_within(1, 4):
            for chosen in ([0], None, [0, 0], [7]):
                self.raises(BadNumber("places"), Blocks, number, chosen)
        for chosen in NOT_LISTS + (
                [], (), [0], [0, 0, 0], [1, 0], [0, 2], [0, -1], [-1, 0], [0, True], [False, 0], [0, None], ["0", "0"],
                [[0], 0], [(0, 0)], [0, GREAT], [0, 1.0]):
            self.raises(BadNumber("chosen"), Blocks, 2, chosen)
        for places in (1, 2, 3, 4):
            for at, pattern in enumerate(all_patterns(places)):
                chosen = [0] * len(all_patterns(places))
                chosen[at] = max(pattern) + 1
                self.raises(BadNumber("chosen"), Blocks, places, chosen)


class Values(Case):
    def test_at_and_over(self):
        for places in (1, 2, 3):
            for blocks in all_blocks(places):
                for things in range(1, 6):
                    rows = inputs(things, places)
                    plain = [plain_value(blocks, row) for row in rows]
                    told = blocks.over(things)
                    self.assertEqual([type(told), told], [Told, Told(things, places, plain)])
                    for row, value in list(zip(rows, plain))[::7]:
                        self.assertEqual([blocks.at(row, things), blocks.at(list(row), things)], [value, value])

    def test_four_places(self):
        for blocks in some_blocks(4, 12):
            for things in (1, 2, 3, 4):
                plain = [plain_value(blocks, row) for row in inputs(things, 4)]
                self.assertEqual(blocks.over(things=things), Told(things, 4, plain))
            self.assertEqual(blocks.at(row=(4, 0, 3, 4), things=5), plain_value(blocks, (4, 0, 3, 4)))
            self.raises(TooMany("values", 256), blocks.over, 5)

    def test_keep_alike_between_worlds(self):
        for places in (1, 2, 3):
            for blocks in all_blocks(places):
                self.assertTrue(family_kept(Family([blocks.over(things) for things in (1, 2, 3, 4, 5)]), "alike"))
        for blocks in some_blocks(4, 5):
            self.assertTrue(family_kept(Family([blocks.over(things) for things in (1, 2, 3, 4)]), "alike"))

    def test_unlike_ones_tell_unlike_functions(self):
        for places in (1, 2, 3):
            for things in range(places, 6):
                self.assertEqual(len({blocks.over(things).tells for blocks in all_blocks(places)}), [1, 2, 24][places - 1])

    def test_wrong(self):
        blocks = Blocks(2, [0, 1])
        for row in NOT_LISTS + ([], (), [0], [0, 0, 0], [0, True], [None, 0], ["0", 0], [[0], 0], [9], [9, None]):
            for things in (3, 1, 0, None):
                self.raises(BadNumber("row"), blocks.at, row, things)
        for things in not_within(1, 5):
            self.raises(BadNumber("things"), blocks.at, [9, -1], things)
            self.raises(BadNumber("things"), blocks.over, things)
            self.raises(BadNumber("things"), some_blocks(4, 1)[0].over, things)
        for row, things, value in (([0, 3], 3, 3), ((-1, 3), 3, -1), ([0, 1], 1, 1), ([GREAT, 9], 5, GREAT)):
            self.raises(NoThing(value), blocks.at, row, things)


class Of(Case):
    def hold_blocks(self, told):
        """Held against all Blocks: the one that tells it and has 0 for the patterns that are not asked."""
        expected = [
            blocks for blocks in all_blocks(told.places) if blocks.over(told.things) == told and all(
                block == 0 or max(pattern) < told.things
                for pattern, block in zip(all_patterns(told.places), blocks.chosen))]
        self.assertLess(len(expected), 2)
        self.assertEqual(blocks_of(told), expected[0] if expected else None)

    def test_against_all_blocks(self):
        for things, places in ((1, 1), (1, 2), (1, 3), (2, 1), (2, 2), (2, 3), (3, 1), (4, 1)):
            for told in all_told(things, places):
                self.hold_blocks(told)
        for told in all_told(3, 2)[::37]:
            self.hold_blocks(told)
        for things, places in SIZES:
            if places < 4:
                for told in some_told(things, places):
                    self.hold_blocks(told)

    def test_each_is_found(self):
        for places, many in ((1, 1), (2, 2), (3, 24), (4, 20)):
            for blocks in some_blocks(places, many, 1):
                for things in range(1, 6):
                    if things ** places <= 256:
                        found = blocks_of(told=blocks.over(things))
                        asked = [
                            block if max(pattern) < things else 0
                            for pattern, block in zip(all_patterns(places), blocks.chosen)]
                        self.assertEqual(found, Blocks(places, asked))

    def test_what_is_nearly_one(self):
        chance = random.Random(7)
        for things, places in ((3, 2), (4, 2), (5, 2), (3, 3), (5, 3), (4, 4)):
            for blocks in some_blocks(places, 10, 2):
                tells = list(blocks.over(things).tells)
                at = chance.randrange(1, len(tells) - 1)
                tells[at] = (tells[at] + chance.randrange(1, things)) % things
                self.assertIsNone(blocks_of(Told(things, places, tells)))

    def test_over_one_thing(self):
        for places, many in ((1, 1), (2, 2), (3, 5), (4, 15)):
            self.assertEqual(blocks_of(Told(1, places, [0])).chosen, (0,) * many)

    def test_from_two_things_more_just_blocks_keep(self):
        for told in all_told(3, 1) + all_told(5, 1):
            self.assertEqual(keeps(told, "alike"), blocks_of(told) is not None)

    def test_wrong(self):
        for value in NOT_TOLD:
            self.raises(BadTold("told"), blocks_of, value)
            self.raises(BadTold("told"), left_over, value)


class LeftOver(Case):
    def test_all_that_keep_alike(self):
        """What is told by blocks and the thing left over keeps alike, and these are as many as the document tells."""
        for places, counts in ((1, (1, 2, 1, 1, 1)), (2, (1, 4, 3, 2, 2)), (3, (1, 16, 81, 32, 24))):
            for things, count in zip((1, 2, 3, 4, 5), counts):
                found = {}
                for told, over in all_alike(things, places):
                    self.assertIs(keeps(told, "alike"), True)
                    self.assertEqual(repr(left_over(told)), repr(over))
                    self.assertIs(blocks_of(told) is None, over != ())
                    found[told.tells] = over
                self.assertEqual(len(found), count)

    def test_nothing_else_keeps_alike(self):
        for things, places in ((1, 1), (1, 4), (2, 1), (2, 2), (2, 3), (3, 1), (3, 2), (4, 1), (5, 1)):
            found = {told.tells: over for told, over in all_alike(things, places)}
            for told in all_told(things, places)[::1 if things * places != 6 else 5]:
                self.assertIs(keeps(told, "alike"), told.tells in found)

    def test_four_places(self):
        chance = random.Random(8)
        for things in (1, 2, 3, 4):
            for _ in range(8):
                choices = {}
                for pattern in all_patterns(4):
                    more = [None] if max(pattern) + 2 == things else []
                    choices[pattern] = chance.choice(list(range(max(pattern) + 1)) + more)
                told = told_by_patterns(things, 4, choices)
                over = tuple(pattern for pattern in all_patterns(4) if choices[pattern] is None)
                self.assertEqual(left_over(told=told), over)

    def test_what_does_not_keep_alike(self):
        for told in all_told(2, 2) + all_told(3, 1) + all_told(3, 2)[::97] + some_told(4, 3) + some_told(4, 4):
            if not keeps(told, "alike"):
                self.raises(Impossible(kept(told, "alike")), left_over, told)

    def test_is_no_programs(self):
        """A family with a lesser world by one, or a greater one, does not keep alike then."""
        for things, places in ((2, 1), (2, 2), (3, 2), (3, 3), (4, 3)):
            for told, over in itertools.islice(all_alike(things, places), 0, None, 3):
                for other in (things - 1, things + 1):
                    if over and other ** places <= 256:
                        for lesser, _ in itertools.islice(all_alike(other, places), 9):
                            self.assertFalse(family_kept(Family([told, lesser]), "alike"))


class Put(Case):
    def test_put(self):
        chance = random.Random(9)
        for many, places in itertools.product((1, 2, 3, 4), (1, 2, 3, 4)):
            for blocks in some_blocks(many, 8, 3):
                others = [chance.choice(some_blocks(places, 5, 4)) for _ in range(many)]
                made = put_blocks(blocks, chance.choice((list, tuple))(others))
                self.assertEqual([type(made), made.places], [Blocks, places])
                for row in inputs(4 if places > 3 else 5, places)[::1 if places < 4 else 3]:
                    self.assertEqual(made.at(row, 5), blocks.at([other.at(row, 5) for other in others], 5))

    def test_edges(self):
        for blocks in all_blocks(3):
            places = [Blocks(3, [pattern[place] for pattern in all_patterns(3)]) for place in range(3)]
            self.assertEqual(put_blocks(others=places, blocks=blocks), blocks)
            self.assertEqual(put_blocks(Blocks(1, [0]), [blocks]), blocks)
            self.assertEqual(put_blocks(blocks, [Blocks(1, [0])] * 3), Blocks(1, [0]))

    def test_wrong(self):
        blocks = Blocks(2, [0, 1])
        for value in NOT_BLOCKS:
            self.raises(BadWorker("blocks"), put_blocks, value, [blocks, blocks])
            self.raises(BadWorker("blocks"), put_blocks, value, None)
            self.raises(BadWorker("others"), put_blocks, blocks, [blocks, value])
            self.raises(BadWorker("others"), put_blocks, blocks, [value])
        for value in NOT_LISTS + (blocks, [[blocks, blocks]], (blocks, blocks, Place(2, 0)), [Blocks]):
            self.raises(BadWorker("others"), put_blocks, blocks, value)
        for value in ([], (), [blocks], [blocks] * 3, [blocks, Blocks(1, [0]), blocks], [Blocks(1, [0])]):
            self.raises(Misfit("others"), put_blocks, blocks, value)
        for value in ([blocks, Blocks(1, [0])], (Blocks(3, [0] * 5), blocks)):
            self.raises(Misfit("places"), put_blocks, blocks, value)


if __name__ == "__main__":
    unittest.main()
