"""Programs: which worker tells a function or a family, and how many functions keep a manner; held against all workers,
all leads and all told functions."""

import functools
import itertools
import random
import time
import unittest

from kindtells.along import Kept, Parting, keeps, kept
from kindtells.blocks import Blocks
from kindtells.errors import BadFamily, BadManner, BadNumber, BadTold, Misfit, TooMany
from kindtells.families import Family, family_kept
from kindtells.forms import Form, all_forms
from kindtells.manners import MANNERS, is_of
from kindtells.papers import Denial, Paper
from kindtells.patterns import all_patterns
from kindtells.places import all_known
from kindtells.programs import Alone, Program, family_what, kept_all, many_kept, what
from kindtells.rankings import all_rankings
from kindtells.ranks import Ranks
from kindtells.told import Told, inputs
from kindtells.workers import Place, Thing
from tests.helpers import GREAT, NOT_INTEGERS, Case, Odd, not_within
from tests.test_along import NOT_TOLD, all_told, manners, plain_parting, plainly_keeps
from tests.test_blocks import all_alike, all_blocks, some_blocks
from tests.test_families import plain_partings
from tests.test_filling import plainly_kept, some_workers
from tests.test_manners import NO_MANNERS
from tests.test_ranks import all_ranks, some_ranks
from tests.test_told import SIZES, some_told

NOT_FAMILIES = NOT_INTEGERS + (0, Told(2, 1, [0, 1]), [Told(2, 1, [0, 1])], Place(1, 0), "2 1 : 0 1", Family)
MIDDLE = Form(3, [(0, 1), (0, 2), (1, 2)])
LEFT = Told(3, 2, [0, 2, 1, 2, 1, 0, 1, 0, 2])


@functools.lru_cache(None)
def plain_workers(manner, places):
    """All workers of a manner, in the order in which the first one of several is told."""
    if manner == "alike":
        return all_blocks(places)
    if manner == "order":
        return all_ranks(places)
    places_and_things = [Place(places, place) for place in range(places)]
    if manner in ("blind", "one", "two"):
        return places_and_things + [Thing(places, thing) for thing in range({"blind": 0, "one": 1, "two": 2}[manner])]
    return [form for form in all_forms(places, "ends") if form.is_of(manner)]


@functools.lru_cache(None)
def told_over(manner, places, things):
    """The values of these workers over a world."""
    return [worker.over(things).tells for worker in plain_workers(manner, places)]


def first_worker(members, manner):
    """The first worker that tells each member, from a list of all; None without one."""
    places = members[0].places
    found = [
        worker for at, worker in enumerate(plain_workers(manner, places))
        if all(told_over(manner, places, told.things)[at] == told.tells for told in members)]
    if not found:
        return None
    most = max(told.things for told in members)
    if manner in ("rank", "either", "least", "ends"):
        return Form(places, ((0,),)) if most == 1 else found[0]
    if manner in ("alike", "order"):
        views = all_patterns(places) if manner == "alike" else all_rankings(places)
        found = [
            worker for worker in found
            if all(number == 0 or max(view) < most for view, number in zip(views, worker.chosen))]
    return found[0]


def count_free(manner, places):
    """How many functions over two things keep a manner, as the document tells it."""
    if manner in ("blind", "either"):
        return 2 ** (2 ** (places - 1) - 1)
    free = {"rank": 2 ** places - 2, "least": 2 ** places - 1, "one": 2 ** places - 1}
    return 2 ** free.get(manner, 2 ** places)


def plain_count(manner, things, places):
    """How many told functions keep a manner, by the numbers that the document tells."""
    rank = (1, 4, 18, 166)[places - 1]
    if things == 1:
        return 1
    if manner == "order":
        return things ** things ** places
    if manner == "alike":
        many = 1
        for pattern in all_patterns(places):
            blocks = max(pattern) + 1
            if blocks <= things:
                many *= blocks + (blocks == things - 1)
        return many
    if things == 2:
        return count_free(manner, places)
    if manner == "two" and things == 3:
        return (3, 6, 20, 168)[places - 1]
    return {"blind": places, "one": places + 1, "two": places + 2, "rank": rank, "least": rank + 1, "ends": rank + 2,
            "either": (1, 2, 4, 12)[places - 1]}[manner]


class What(Case):
    def hold_what(self, told, manner):
        paper = what(told, manner)
        worker = first_worker((told,), manner)
        if worker is not None:
            self.assertEqual([type(paper), type(paper.worker)], [Program, type(worker)])
            self.assertEqual(paper.worker, worker)
        elif plainly_keeps(told, manner):
            self.assertIs(type(paper), Alone)
        else:
            self.assertIs(type(paper), Parting)
            self.assertTrue(is_of(paper.lead, manner))
            self.assertEqual([paper.lead.begin, paper.lead.into], [told.things, told.things])
            self.assertIn(paper.row, plain_parting(told, paper.lead))
        self.assertEqual(paper, what(told, manner))

    def test_all_over_small_worlds(self):
        for things, places in ((1, 1), (1, 2), (2, 1), (2, 2), (3, 1), (4, 1)):
            for told in all_told(things, places):
                for manner in manners(things):
                    self.hold_what(told, manner)

    def test_three_places_over_two_things(self):
        for told in all_told(2, 3):
            for manner in MANNERS[:8]:
                self.hold_what(told, manner)

    def test_two_places_over_three_things(self):
        for told in all_told(3, 2)[::131]:
            for manner in MANNERS:
                self.hold_what(told, manner)
        for manner in MANNERS[:8]:
            for tells in plainly_kept(3, 2, manner):
                self.hold_what(Told(3, 2, tells), manner)

    def test_each_worker_is_told(self):
        """Over as many things as part workers the worker itself is told; over fewer one that tells the same."""
        for manner, places in itertools.product(MANNERS, (1, 2, 3, 4)):
            for worker in some_workers(manner, places):
                for things in range(2 if manner == "two" else 1, 6):
                    if things ** places <= 256:
                        told = worker.over(things)
                        paper = what(manner=manner, told=told)
                        self.assertIs(type(paper), Program)
                        self.assertEqual(paper.worker.over(things), told)
                        if things >= max(2, places if manner in ("alike", "order") else 2):
                            self.assertEqual(paper.worker, worker)

    def test_over_one_thing(self):
        for places in (1, 2, 3, 4):
            told = Told(1, places, [0])
            for manner in ("blind", "one"):
                self.assertEqual(what(told, manner), Program(Place(places, 0)))
            for manner in ("rank", "either", "least", "ends"):
                self.assertEqual(what(told, manner), Program(Form(places, ((0,),))))
            self.assertEqual(what(told, "alike"), Program(Blocks(places, [0] * (1, 2, 5, 15)[places - 1])))
            self.assertEqual(what(told, "order"), Program(Ranks(places, [0] * (1, 3, 13, 75)[places - 1])))

    def test_what_two_things_do_not_ask(self):
        blocks, ranks = Blocks(3, [0, 1, 1, 0, 2]), Ranks(3, [0, 1, 1, 1, 2] + [0] * 8)
        self.assertEqual(what(blocks.over(2), "alike"), Program(Blocks(3, [0, 1, 1, 0, 0])))
        self.assertEqual(what(ranks.over(2), "order"), Program(Ranks(3, [0, 1, 1, 1, 0] + [0] * 8)))
        self.assertEqual([what(blocks.over(3), "alike").worker, what(ranks.over(3), "order").worker], [blocks, ranks])

    def test_places_ahead_of_things(self):
        for manner in ("one", "two"):
            self.assertEqual(what(Told(2, 1, [0, 1]), manner), Program(Place(1, 0)))
            self.assertEqual(what(Told(2, 1, [0, 0]), manner), Program(Thing(1, 0)))
            self.assertEqual(what(Place(4, 3).over(4), manner), Program(Place(4, 3)))
        self.assertEqual(what(Told(2, 1, [1, 1]), "two"), Program(Thing(1, 1)))

    def test_the_thing_left_over_is_no_programs(self):
        for things, places in ((2, 1), (2, 2), (3, 2), (3, 3), (4, 3)):
            for told, over in itertools.islice(all_alike(things, places), 0, None, 5):
                self.assertIs(type(what(told, "alike")), Alone if over else Program)

    def test_two_over_three_things(self):
        for places in (1, 2):
            found = [Told(3, places, tells) for tells in plainly_kept(3, places, "two")]
            programs = [told for told in found if type(what(told, "two")) is Program]
            self.assertEqual([len(found), len(programs)], [(3, 6)[places - 1], places + 2])
            self.assertTrue(all(type(what(told, "two")) in (Program, Alone) for told in found))

    def test_papers_of_great_functions(self):
        chance = random.Random(101)
        for things, places in SIZES:
            found = some_told(things, places)
            found.append(Told(things, places, [chance.randrange(things) for _ in inputs(things, places)]))
            for told in found:
                for manner in manners(things):
                    paper = what(told, manner)
                    if type(paper) is Program:
                        self.assertEqual(paper.worker.over(things), told)
                    else:
                        self.assertIs(type(paper), Alone if keeps(told, manner) else Parting)

    def test_wrong(self):
        for value in NOT_TOLD:
            self.raises(BadTold("told"), what, value, "blind")
            self.raises(BadTold("told"), what, value, None)
        for manner in NO_MANNERS:
            self.raises(BadManner("manner"), what, Told(1, 1, [0]), manner)
        for places in (1, 2, 3, 4):
            self.raises(Misfit("things"), what, Told(1, places, [0]), "two")


class FamilyWhat(Case):
    def hold_what(self, family, manner):
        paper = family_what(family, manner)
        worker = first_worker(family.members, manner)
        if worker is not None:
            self.assertEqual([type(paper), paper.worker], [Program, worker])
            return
        partings = plain_partings(family, manner)
        self.assertIs(type(paper), Parting if partings else Alone)
        if partings:
            self.assertTrue(is_of(paper.lead, manner))
            self.assertIn((paper.lead, paper.row), partings)
        self.assertEqual(paper, family_what(Family(family.members[::-1]), manner))

    def test_all_over_small_worlds(self):
        for worlds, places in (((1, 2), 1), ((2, 3), 1), ((1, 3), 1), ((1, 2), 2), ((1, 2, 3), 1), ((2,), 2), ((3,), 1)):
            for members in itertools.product(*[all_told(things, places) for things in worlds]):
                for manner in manners(min(worlds)):
                    self.hold_what(Family(members), manner)

    def test_families_of_what_keeps(self):
        """Of two places over two and three things, and over one, two and four."""
        for manner in MANNERS[:8]:
            for worlds in ((2, 3), (1, 2, 3)):
                if 1 not in worlds or manner != "two":
                    lists = [plainly_kept(things, 2, manner) for things in worlds]
                    for members in itertools.product(*lists):
                        told = [Told(things, 2, tells) for things, tells in zip(worlds, members)]
                        self.hold_what(Family(told), manner)

    def test_order(self):
        chance = random.Random(102)
        for worlds in ((1, 2), (2, 3), (1, 2, 3)):
            for ranks in all_ranks(2):
                told = [ranks.over(things) for things in worlds]
                self.hold_what(Family(told), "order")
                at = chance.randrange(len(told))
                tells = list(told[at].tells)
                tells[-1] = chance.randrange(told[at].things)
                told[at] = Told(told[at].things, 2, tells)
                self.hold_what(Family(told), "order")

    def test_workers_over_worlds(self):
        for manner, places in itertools.product(MANNERS, (1, 2, 3)):
            for worker in some_workers(manner, places):
                for worlds in ((2, 3), (2, 4, 5), (2, 3, 4, 5), (5,), (3, 4)):
                    family = Family([worker.over(things) for things in worlds])
                    self.assertEqual(family_what(family=family, manner=manner), Program(worker))

    def test_of_four_places(self):
        for manner in MANNERS:
            for worker in some_workers(manner, 4):
                family = Family([worker.over(things) for things in (2, 3, 4)])
                self.assertEqual(family_what(family, manner), Program(worker))

    def test_over_one_thing(self):
        family = Family([Told(1, 2, [0])])
        for manner, worker in (
                ("blind", Place(2, 0)), ("rank", Form(2, [(0,)])), ("one", Place(2, 0)), ("ends", Form(2, [(0,)])),
                ("alike", Blocks(2, [0, 0])), ("order", Ranks(2, [0, 0, 0]))):
            self.assertEqual(family_what(family, manner), Program(worker))
        # What one world does not ask another one may.
        family = Family([Told(1, 2, [0]), Told(2, 2, [0, 1, 0, 1])])
        for manner, worker in (
                ("blind", Place(2, 1)), ("rank", Form(2, [(1,)])), ("alike", Blocks(2, [0, 1])),
                ("order", Ranks(2, [0, 1, 0]))):
            self.assertEqual(family_what(family, manner), Program(worker))

    def test_members_of_two_workers(self):
        """Each member is a worker's, but not the same one's: such a family parts."""
        for manner in MANNERS:
            for one, other in itertools.permutations(plain_workers(manner, 2), 2):
                family = Family([one.over(2), other.over(3)])
                if one.over(2) != other.over(2):
                    self.assertIs(type(family_what(family, manner)), Parting)

    def test_single_members(self):
        """A family of one member is asked as this alone."""
        for told in all_told(2, 2) + all_told(3, 1) + [LEFT]:
            for manner in MANNERS:
                self.assertEqual(family_what(Family([told]), manner), what(told, manner))

    def test_alone(self):
        three, four = MIDDLE.over(3), Blocks(3, [0, 1, 1, 0, 2])
        self.assertEqual(family_what(Family([Told(1, 3, [0]), MIDDLE.over(2)]), "blind"), Alone())
        self.assertEqual(family_what(Family([MIDDLE.over(2), three]), "either"), Program(MIDDLE))
        self.assertEqual(family_what(Family([four.over(2), four.over(3)]), "alike"), Program(four))
        self.assertEqual(family_what(Family([LEFT]), "alike"), Alone())
        self.assertEqual(family_what(Family([Told(4, 1, [1, 0, 3, 2])]), "order"), Alone())

    def test_keeping_families_over_all_lesser_worlds_are_workers(self):
        """In order over the worlds from 1 to as many things as places; in alike, too."""
        for places, worlds in ((1, (1,)), (1, (1, 2)), (2, (1, 2)), (2, (1, 2, 3))):
            for members in itertools.product(*[all_told(things, places)[::1 if things < 3 else 29] for things in worlds]):
                family = Family(members)
                for manner in ("alike", "order"):
                    if family_kept(family, manner) == Kept():
                        self.assertIs(type(family_what(family, manner)), Program)

    def test_wrong(self):
        one, two = Family([Told(1, 1, [0])]), Family([Told(1, 1, [0]), Told(2, 1, [0, 1])])
        for value in NOT_FAMILIES:
            self.raises(BadFamily("family"), family_what, value, "blind")
            self.raises(BadFamily("family"), family_what, value, None)
        for manner in NO_MANNERS:
            self.raises(BadManner("manner"), family_what, one, manner)
        for family in (one, two, Family([Told(5, 1, [0] * 5), Told(1, 1, [0])])):
            self.raises(Misfit("things"), family_what, family, "two")


class KeptAll(Case):
    def hold_all(self, manner, things, places, found):
        self.assertEqual(many_kept(manner, things, places), len(found))
        if len(found) > 200:
            self.raises(TooMany("functions", 200), kept_all, manner, things, places)
        else:
            told = kept_all(manner, things, places)
            self.assertEqual([type(told), [each.tells for each in told]], [tuple, found])
            self.assertTrue(all(type(each) is Told for each in told))
            self.assertTrue(all([each.things, each.places] == [things, places] for each in told))

    def test_against_all_told_functions(self):
        for things, places in ((1, 1), (1, 2), (1, 3), (1, 4), (2, 1), (2, 2), (2, 3), (3, 1), (3, 2), (4, 1), (5, 1)):
            for manner in manners(things):
                self.hold_all(manner, things, places, plainly_kept(things, places, manner))

    def test_numbers_that_are_told(self):
        for things, places in SIZES:
            for manner in manners(things):
                self.assertEqual(many_kept(manner, things, places), plain_count(manner, things, places))
        self.assertEqual([many_kept("blind", 2, places) for places in (1, 2, 3, 4)], [1, 2, 8, 128])
        self.assertEqual([many_kept("one", 2, places) for places in (1, 2, 3, 4)], [2, 8, 128, 32768])
        self.assertEqual([many_kept("two", 3, places) for places in (1, 2, 3, 4)], [3, 6, 20, 168])
        self.assertEqual([many_kept("rank", 2, places) for places in (1, 2, 3)], [1, 4, 64])
        self.assertEqual([many_kept("rank", 3, places) for places in (1, 2, 3, 4)], [1, 4, 18, 166])
        self.assertEqual([many_kept("either", 4, places) for places in (1, 2, 3, 4)], [1, 2, 4, 12])
        self.assertEqual([many_kept("alike", things, 1) for things in (1, 2, 3, 4, 5)], [1, 2, 1, 1, 1])
        self.assertEqual([many_kept("alike", things, 2) for things in (1, 2, 3, 4, 5)], [1, 4, 3, 2, 2])
        self.assertEqual([many_kept("alike", things, 3) for things in (1, 2, 3, 4, 5)], [1, 16, 81, 32, 24])
        self.assertEqual(many_kept("order", 4, 4), 4 ** 256)
        self.assertEqual(many_kept(places=3, manner="order", things=5), 5 ** 125)

    def test_all_of_greater_worlds(self):
        """Each one keeps the manner, and they are as many as are told, unlike and ascending."""
        for things, places in SIZES:
            for manner in manners(things):
                many = plain_count(manner, things, places)
                if many > 200:
                    self.raises(TooMany("functions", 200), kept_all, manner, things, places)
                else:
                    found = [told.tells for told in kept_all(manner, things, places)]
                    self.assertEqual([found, len(found)], [sorted(set(found)), many])
                    for tells in found:
                        self.assertIs(keeps(Told(things, places, tells), manner), True)

    def test_workers_and_others(self):
        """Over three things or more all are workers'; over two, and in two over three, some are alone."""
        for things, places in ((3, 2), (3, 3), (4, 2), (5, 2), (4, 3)):
            for manner in ("blind", "rank", "either", "least", "ends", "one"):
                found = [what(told, manner).worker for told in kept_all(manner, things, places)]
                self.assertEqual(len(found), len({repr(vars(worker)) for worker in found}))
                self.assertEqual(len(found), len(plain_workers(manner, places)))
        found = [what(told, "two").word for told in kept_all(things=3, manner="two", places=3)]
        self.assertEqual([found.count("program"), found.count("alone")], [5, 15])
        found = [what(told, "blind").word for told in kept_all("blind", 2, 4)]
        self.assertEqual([found.count("program"), found.count("alone")], [4, 124])
        found = [what(told, "alike").word for told in kept_all("alike", 3, 3)]
        self.assertEqual([found.count("program"), found.count("alone")], [24, 57])

    def test_wrong(self):
        for call in (many_kept, kept_all):
            for manner in NO_MANNERS:
                self.raises(BadManner("manner"), call, manner, 0, 0)
                self.raises(BadManner("manner"), call, manner, 5, 4)
            for number in not_within(1, 5):
                self.raises(BadNumber("things"), call, "two", number, number)
                self.raises(BadNumber("things"), call, "order", number, 1)
            for number in not_within(1, 4):
                self.raises(BadNumber("places"), call, "two", 1, number)
                self.raises(BadNumber("places"), call, "order", 5, number)
            for places in (1, 2, 3, 4):
                self.raises(Misfit("things"), call, "two", 1, places)
            for manner in MANNERS:
                self.raises(TooMany("values", 256), call, manner, 5, 4)

    def test_is_not_slow(self):
        begin = time.process_time()
        for manner in MANNERS:
            for things, places in ((5, 3), (4, 4), (2, 4), (3, 4)):
                many_kept(manner, things, places)
        for manner in ("rank", "least", "ends"):
            kept_all(manner, 4, 4)
        for manner in ("blind", "rank", "alike", "order"):
            for told in some_told(4, 4) + some_told(5, 3):
                what(told, manner)
        self.assertLess(time.process_time() - begin, 3)


class Papers(Case):
    def test_words_and_parts(self):
        for worker in NOT_INTEGERS[:-3] + (Place(2, 0), MIDDLE, GREAT, "x"):
            self.assertEqual([Program(worker).word, bool(Program(worker)), len(Program(worker).parts)], ["program", True, 1])
        self.assertEqual([Program([1, [2]]).worker, Program(worker=[1]).parts], [(1, (2,)), ((1,),)])
        self.assertEqual([Alone().word, Alone().parts, bool(Alone())], ["alone", (), False])
        self.assertEqual([Program.__bases__, Alone.__bases__], [(Paper,), (Denial,)])
        self.all_unlike([
            Program(Place(2, 0)), Program(Place(2, 1)), Program(None), Alone(), Denial("alone"), Paper("program", None),
            Kept(), kept(LEFT, "blind"), Odd()])


if __name__ == "__main__":
    unittest.main()
