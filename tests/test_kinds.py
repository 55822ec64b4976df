"""Kinds: values, functions from kind to kind, their workers, and which worker tells a function."""

import functools
import itertools
import random
import time
import unittest

from kindtells.blocks import Blocks, put_blocks
from kindtells.errors import BadKind, BadManner, BadNumber, BadWorker, TooMany
from kindtells.forms import Form, all_forms, bits_of, greatest_of, least_of, put
from kindtells.kinds import Kind, KindTold, KindWorker, kind_keeps, kind_values, kind_worker_of
from kindtells.manners import leads
from kindtells.patterns import all_patterns, pattern_of
from kindtells.rankings import all_rankings, ranking_of
from kindtells.ranks import fits, form_of_ranks
from kindtells.told import Told
from kindtells.workers import Place, Worker
from tests.helpers import GREAT, NOT_INTEGERS, NOT_LISTS, Alike, Case, Odd, not_within
from tests.test_manners import NO_MANNERS

FIVE = ("blind", "rank", "either", "alike", "order")
NOT_FIVE = NO_MANNERS + ("least", "ends", "one", "two")
PAIR, PERHAPS = Kind([2]), Kind([0, 1])
MIDDLE = Form(3, [(0, 1), (0, 2), (1, 2)])
SWAPPED = KindTold(2, PAIR, PAIR, [(0, 0, 0), (0, 1, 0), (0, 0, 1), (0, 1, 1)])
NOT_KINDS = NOT_INTEGERS + (0, 2, (0, 1), [2], "2", Kind, SWAPPED, [PAIR], Place(2, 0), Told(2, 1, [0, 1]))
KINDS = [Kind(shapes) for shapes in ([0], [1], [2], [0, 1], [1, 0], [1, 1], [0, 0], [2, 0], [1, 2])]


def plain_values(shapes, things):
    found = []
    for shape, places in enumerate(shapes):
        found += [(shape, *row) for row in itertools.product(range(things), repeat=places)]
    return sorted(found)


def plainly_keeps(told, manner):
    values = plain_values(told.kind.shapes, told.things)
    tells = dict(zip(values, told.tells))
    return all(
        tells[(value[0], *[lead.row[thing] for thing in value[1:]])]
        == (tells[value][0], *[lead.row[thing] for thing in tells[value][1:]])
        for lead in leads(manner, told.things, told.things) for value in values)


def views(manner, places):
    if places == 0:
        return [()]
    return all_patterns(places) if manner == "alike" else all_rankings(places)


def view_of(manner, row):
    if not row:
        return ()
    return pattern_of(row) if manner == "alike" else ranking_of(row)


def plain_choices(into, numbers):
    """All that can be told: a shape and behind it any of these for each of its places; ascending."""
    return [
        (shape, *parts) for shape, places in enumerate(into.shapes)
        for parts in itertools.product(numbers, repeat=places)]


def plain_rows(manner, places, into, things):
    """All rows of workers for a shape of so many places; things: with what the world does not ask left at 0."""
    if manner == "blind":
        return plain_choices(into, range(places))
    if manner in ("rank", "either"):
        forms = all_forms(places, manner) if places else []
        if things == 1 and places:
            forms = [Form(places, [(0,)])]
        return plain_choices(into, forms)
    lists = []
    for view in views(manner, places):
        many = max(view, default=-1) + 1
        asked = things is None or many <= things
        lists.append(plain_choices(into, range(many)) if asked else [(0,) + (0,) * into.shapes[0]])
    return list(itertools.product(*lists))


def plain_rows_of_all(manner, kind, into, things=None):
    return list(itertools.product(*[plain_rows(manner, places, into, things) for places in kind.shapes]))


def plain_tells(manner, kind, rows, things):
    """What a worker with these rows tells of all values, as the document tells it."""
    found = []
    for shape, *row in plain_values(kind.shapes, things):
        told = rows[shape]
        if manner in ("alike", "order"):
            view = view_of(manner, row)
            told = dict(zip(views(manner, len(row)), told))[view]
            parts = [row[view.index(number)] for number in told[1:]]
        elif manner == "blind":
            parts = [row[place] for place in told[1:]]
        else:
            parts = [form.at(row, things) for form in told[1:]]
        found.append((told[0], *parts))
    return tuple(found)


@functools.lru_cache(None)
def first_rows(manner, shapes, into_shapes, things):
    """For each function that workers tell over a world the rows of the first one."""
    kind, into = Kind(shapes), Kind(into_shapes)
    found = {}
    for rows in plain_rows_of_all(manner, kind, into, things):
        found.setdefault(plain_tells(manner, kind, rows, things), rows)
    return found


def all_kind_told(things, kind, into):
    values = plain_values(into.shapes, things)
    many = len(plain_values(kind.shapes, things))
    return [KindTold(things, kind, into, tells) for tells in itertools.product(values, repeat=many)]


class Kinds(Case):
    def test_attributes(self):
        for many in (1, 2, 3, 4):
            for shapes in itertools.product(range(4), repeat=many):
                self.assertEqual(repr(Kind(list(shapes)).shapes), repr(shapes))
        self.assertEqual(Kind(shapes=(1, 2)), Kind([1, 2]))

    def test_shapes_are_copied(self):
        shapes = [1, 2]
        kind = Kind(shapes)
        shapes[0] = 3
        self.assertEqual(kind.shapes, (1, 2))

    def test_equality(self):
        self.all_unlike([
            Kind([0]), Kind([1]), Kind([0, 0]), Kind([0, 1]), Kind([1, 0]), Kind([0, 0, 0, 0]), (0,), [0], 0, None, "0",
            Odd(), Kind])
        self.all_equal([Kind([3, 1]), Kind((3, 1))])

    def test_wrong(self):
        for shapes in NOT_LISTS + (
                [], (), [4], [-1], [0] * 5, [0, 1, 2, 3, 0], [True], [0, False], [None], ["1"], [[1]], [1.0], [GREAT],
                [-GREAT], [1, 4], [1, -1], Alike(), [Alike()], ((1, 2),), PAIR):
            self.raises(BadNumber("shapes"), Kind, shapes)


class Values(Case):
    def test_all_that_are_few(self):
        for things in range(1, 6):
            for many in (1, 2, 3, 4):
                for shapes in itertools.islice(itertools.product(range(4), repeat=many), 0, None, 5):
                    plain = plain_values(shapes, things)
                    if len(plain) <= 256:
                        self.assertEqual(repr(kind_values(Kind(shapes), things)), repr(tuple(plain)))
                    else:
                        self.raises(TooMany("values", 256), kind_values, Kind(shapes), things)
        self.assertEqual(kind_values(things=1, kind=PERHAPS), ((0,), (1, 0)))

    def test_just_256(self):
        self.assertEqual(len(kind_values(Kind([3, 3, 3, 3]), 4)), 256)
        self.assertEqual(len(kind_values(Kind([3, 3, 1, 0]), 5)), 256)
        for shapes in ([3, 3, 1, 1], [3, 3, 3], [3, 3, 3, 3]):
            self.raises(TooMany("values", 256), kind_values, Kind(shapes), 5)

    def test_wrong(self):
        for kind in NOT_KINDS:
            self.raises(BadKind("kind"), kind_values, kind, 1)
            self.raises(BadKind("kind"), kind_values, kind, 0)
        for things in not_within(1, 5):
            self.raises(BadNumber("things"), kind_values, PAIR, things)
            self.raises(BadNumber("things"), kind_values, Kind([3, 3, 3, 3]), things)


class ToldKinds(Case):
    def test_attributes_and_at(self):
        chance = random.Random(41)
        for things in (1, 2, 3, 4, 5):
            for kind, into in itertools.product(KINDS, repeat=2):
                values, aims = plain_values(kind.shapes, things), plain_values(into.shapes, things)
                tells = [chance.choice(aims) for _ in values]
                passed = [chance.choice((list, tuple))(aim) for aim in tells]
                told = KindTold(things, kind, into, chance.choice((list, tuple))(passed))
                self.assertEqual([told.things, told.kind, told.into], [things, kind, into])
                self.assertEqual(repr(told.tells), repr(tuple(tells)))
                for value, aim in zip(values, tells):
                    self.assertEqual(repr([told.at(value), told.at(list(value))]), repr([aim, aim]))
        named = KindTold(tells=[(0,), (1, 0)], into=PERHAPS, kind=PERHAPS, things=1)
        self.assertEqual([named.at(value=(1, 0)), named], [(1, 0), KindTold(1, PERHAPS, PERHAPS, ((0,), (1, 0)))])

    def test_tells_is_copied(self):
        tells = [[0, 0, 0], [0, 0, 1], [0, 1, 0], [0, 1, 1]]
        told = KindTold(2, PAIR, PAIR, tells)
        tells[0][1] = 1
        tells.append([0, 0, 0])
        self.assertEqual(told.tells, ((0, 0, 0), (0, 0, 1), (0, 1, 0), (0, 1, 1)))

    def test_equality(self):
        one, zero = Kind([1]), Kind([0])
        self.all_unlike([
            KindTold(1, one, one, [(0, 0)]), KindTold(2, one, one, [(0, 0), (0, 0)]), KindTold(2, one, one, [(0, 0), (0, 1)]),
            KindTold(1, zero, one, [(0, 0)]), KindTold(1, one, zero, [(0,)]), KindTold(1, zero, zero, [(0,)]),
            KindTold(2, zero, zero, [(0,)]), KindTold(1, one, Kind([1, 1]), [(0, 0)]),
            KindTold(1, one, Kind([1, 1]), [(1, 0)]), KindTold(1, PERHAPS, one, [(0, 0), (0, 0)]), one, Told(1, 1, [0]), 0,
            None, ((0, 0),), Odd(), KindTold])
        self.all_equal([KindTold(1, one, one, [(0, 0)]), KindTold(1, Kind((1,)), Kind([1]), ([0, 0],))])

    def test_wrong_first_arguments(self):
        for things in not_within(1, 5):
            self.raises(BadNumber("things"), KindTold, things, None, None, None)
            self.raises(BadNumber("things"), KindTold, things, PAIR, PAIR, [(0, 0, 0)])
        for kind in NOT_KINDS:
            self.raises(BadKind("kind"), KindTold, 1, kind, kind, None)
            self.raises(BadKind("kind"), KindTold, 5, kind, PAIR, [(0, 0, 0)])
            self.raises(BadKind("into"), KindTold, 1, PAIR, kind, None)
            self.raises(BadKind("into"), KindTold, 5, Kind([3, 3, 3]), kind, [(0, 0, 0)])

    def test_wrong_tells(self):
        for tells in NOT_LISTS + (
                [], [(1, 0)], [(0,)] * 2, [(0,)] * 4, [(0,), (0,), (2,)], [(0,), (0,), (1,)], [(0,), (0,), (0, 0)],
                [(0,), (0,), (1, 2)], [(0,), (0,), (1, -1)], [(0,), (0,), ()], [(0,), (0,), 0], [(0,), (0,), "0"],
                [(0,), (0,), (True, 0)], [(0,), (0,), (1, False)], [(0,), (0,), (1, None)], [(0,), (0,), (1, (0,))],
                [(0,), (0,), (-1,)], [(0,), (0,), (1, 0, 0)], [(0,), (0,), None], [(0,), (0,), (1, 1.0)],
                [(0,), (0,), (GREAT,)], [(0,), (0,), (1, GREAT)], [(0,), (0,), Alike()], [(0,), (0,), (Alike(),)],
                [(0,), (0,), (1, Alike())], [[(0,), (0,), (0,)]], Alike(), ((0,), (0,)), [(False,), (0,), (0,)]):
            self.raises(BadKind("tells"), KindTold, 2, PERHAPS, PERHAPS, tells)
        self.assertEqual(KindTold(2, PERHAPS, PERHAPS, [[0], (0,), [1, 1]]).tells, ((0,), (0,), (1, 1)))

    def test_more_than_256_values(self):
        great = Kind([3, 3, 3])
        self.raises(TooMany("values", 256), KindTold, 5, great, PERHAPS, [(0,)] * 375)
        for many in (0, 256, 374, 376):
            self.raises(BadKind("tells"), KindTold, 5, great, PERHAPS, [(0,)] * many)
        self.raises(BadKind("tells"), KindTold, 5, great, PERHAPS, [(0,)] * 374 + [(1, 5)])
        # The second kind may have more.
        told = KindTold(5, PERHAPS, great, [(2, 4, 4, 4)] * 6)
        self.assertEqual(told.at((1, 4)), (2, 4, 4, 4))
        self.assertEqual(len(KindTold(4, Kind([3] * 4), Kind([3] * 4), [(3, 3, 3, 3)] * 256).tells), 256)

    def test_at_what_is_no_value(self):
        for value in NOT_LISTS + (
                [], (), (0,), (0, 0), (0, 0, 0, 0), (1, 0, 0), (-1, 0, 0), (0, 2, 0), (0, 0, -1), (True, 0, 0), (0, True, 0),
                (0, 0, False), (0, None, 0), ((0,), 0, 0), ((0, 0, 0),), (0, 0, GREAT), (GREAT, 0, 0), (0, 0, 1.0), Alike(),
                (0, 0, Alike())):
            self.raises(BadKind("value"), SWAPPED.at, value)


class Making(Case):
    def hold_worker(self, manner, kind, into, rows):
        worker = KindWorker(manner, kind, into, rows)
        self.assertEqual([worker.manner, worker.kind, worker.into], [manner, kind, into])
        self.assertEqual([type(worker.rows), worker.rows], [tuple, tuple(rows)])
        for things in range(1, 6):
            self.assertEqual(
                worker.over(things), KindTold(things, kind, into, plain_tells(manner, kind, rows, things)))
        return worker

    def test_all_of_small_kinds(self):
        for manner, kind, into in itertools.product(FIVE, KINDS[:7], KINDS[:7]):
            found = [self.hold_worker(manner, kind, into, rows) for rows in plain_rows_of_all(manner, kind, into)]
            self.assertTrue(found or (0 in kind.shapes and 0 not in into.shapes))
            self.all_unlike(found[:9])

    def test_some_of_greater_kinds(self):
        chance = random.Random(42)
        for manner in FIVE:
            for shapes, into_shapes in (((2, 3), (3, 0)), ((3,), (2, 1)), ((3, 0, 1), (0, 2)), ((1, 1, 1, 1), (1, 1, 0, 0))):
                kind, into = Kind(shapes), Kind(into_shapes)
                for _ in range(4):
                    self.hold_worker(manner, kind, into, self.some_rows(manner, kind, into, chance))

    def some_rows(self, manner, kind, into, chance):
        rows = []
        for places in kind.shapes:
            if manner in ("alike", "order"):
                rows.append(tuple(
                    chance.choice(plain_choices(into, range(max(view, default=-1) + 1)))
                    for view in views(manner, places)))
            else:
                rows.append(chance.choice(plain_rows(manner, places, into, None)))
        return tuple(rows)

    def test_lists_and_tuples(self):
        form = Form(2, [(0, 1)])
        self.all_equal([
            KindWorker("rank", PAIR, PERHAPS, [(1, form)]), KindWorker("rank", PAIR, PERHAPS, ([1, form],)),
            KindWorker(rows=[[1, Form(2, [[0, 1]])]], into=Kind((0, 1)), kind=PAIR, manner="rank")])
        rows = [[[1, 0], [0]]]
        worker = KindWorker("alike", PAIR, PERHAPS, rows)
        rows[0][1].append(1)
        rows[0].append([0])
        rows.append(0)
        self.assertEqual(repr(worker.rows), "(((1, 0), (0,)),)")
        self.assertEqual(worker, KindWorker("alike", PAIR, PERHAPS, [((1, 0), (0,))]))

    def test_equality(self):
        one = Kind([1])
        self.all_unlike([
            KindWorker("blind", one, one, [(0, 0)]), KindWorker("rank", one, one, [(0, Form(1, [(0,)]))]),
            KindWorker("either", one, one, [(0, Form(1, [(0,)]))]), KindWorker("alike", one, one, [[(0, 0)]]),
            KindWorker("order", one, one, [[(0, 0)]]), KindWorker("blind", PAIR, one, [(0, 0)]),
            KindWorker("blind", PAIR, one, [(0, 1)]), KindWorker("blind", one, Kind([1, 1]), [(0, 0)]),
            KindWorker("blind", one, Kind([1, 1]), [(1, 0)]), KindWorker("blind", Kind([0]), Kind([0]), [(0,)]),
            Place(1, 0), (0, 0), ((0, 0),), one, None, Odd(), KindWorker])

    def test_is_no_worker(self):
        self.assertFalse(issubclass(KindWorker, Worker))

    def test_is_asked_nowhere_as_a_worker(self):
        worker = KindWorker("rank", PAIR, PAIR, [(0, Form(2, [(0,)]), Form(2, [(1,)]))])
        form, blocks = Form(1, [(0,)]), Blocks(1, [0])
        self.raises(BadWorker("form"), bits_of, worker)
        for call in (fits, form_of_ranks):
            self.raises(BadWorker("ranks"), call, worker)
        for call in (greatest_of, least_of):
            self.raises(BadWorker("one"), call, worker, form)
            self.raises(BadWorker("other"), call, form, worker)
        self.raises(BadWorker("form"), put, worker, [form])
        self.raises(BadWorker("forms"), put, form, [worker])
        self.raises(BadWorker("blocks"), put_blocks, worker, [blocks])
        self.raises(BadWorker("others"), put_blocks, blocks, [worker])

    def test_over_is_wrong(self):
        worker = KindWorker("blind", Kind([3, 3, 3]), PERHAPS, [(0,)] * 3)
        for things in not_within(1, 5):
            self.raises(BadNumber("things"), worker.over, things)
        self.raises(TooMany("values", 256), worker.over, 5)
        self.assertEqual(len(worker.over(things=4).tells), 192)


class WrongWorkers(Case):
    def test_first_arguments(self):
        for manner in NOT_FIVE:
            self.raises(BadManner("manner"), KindWorker, manner, None, None, None)
            self.raises(BadManner("manner"), KindWorker, manner, PAIR, PAIR, [(0, 0, 0)])
        for kind in NOT_KINDS:
            for manner in FIVE:
                self.raises(BadKind("kind"), KindWorker, manner, kind, kind, None)
                self.raises(BadKind("into"), KindWorker, manner, PAIR, kind, None)

    def hold_bad(self, manner, kind, into, rows):
        self.raises(BadWorker("rows"), KindWorker, manner, kind, into, rows)

    def test_no_lists(self):
        for manner in FIVE:
            for rows in NOT_LISTS + ([], (), [None], [0], ["00"], [[]], [()], [[[]]], [(True,)], Alike(), [Alike()], [Odd()]):
                self.hold_bad(manner, PAIR, PERHAPS, rows)

    def test_how_many(self):
        for manner, row in (
                ("blind", (0,)), ("rank", (0,)), ("either", (0,)), ("alike", [(0,), (0,)]), ("order", [(0,)] * 3)):
            KindWorker(manner, PAIR, PERHAPS, [row])
            KindWorker(manner, Kind([2, 2]), PERHAPS, [row, row])
            self.hold_bad(manner, PAIR, PERHAPS, [row, row])
            self.hold_bad(manner, Kind([2, 2]), PERHAPS, [row])
            self.hold_bad(manner, Kind([2, 2]), PERHAPS, [row] * 3)
            self.hold_bad(manner, PAIR, PERHAPS, row)
        for manner, many in (("alike", 2), ("order", 3)):
            for wrong in (0, 1, 2, 3, 4, 5, 13):
                if wrong != many:
                    self.hold_bad(manner, PAIR, PERHAPS, [[(0,)] * wrong])

    def test_shapes_and_numbers(self):
        """In each place of a row values that cannot stand there."""
        wrong = NOT_INTEGERS + (-1, 2, 5, GREAT, -GREAT, (0,), Form(2, [(0,)]), Place(2, 0))
        for value in wrong:
            for row in ((value,), (value, 0), (1, value), (1, 0, value), (0, value)):
                self.hold_bad("blind", PAIR, PERHAPS, [row])
                self.hold_bad("alike", PAIR, PERHAPS, [[(0,), row]])
                self.hold_bad("order", PAIR, PERHAPS, [[(0,), (0,), row]])
        # Of a pattern, of a ranking each number must be one of its own.
        self.hold_bad("alike", PAIR, PERHAPS, [[(1, 1), (0,)]])
        self.hold_bad("order", PAIR, PERHAPS, [[(1, 1), (0,), (0,)]])
        KindWorker("alike", PAIR, PERHAPS, [[(1, 0), (1, 1)]])
        KindWorker("order", PAIR, PERHAPS, [[(1, 0), (1, 1), (1, 1)]])

    def test_forms(self):
        wrong = NOT_INTEGERS + (
            -1, 2, Form(1, [(0,)]), Form(3, [(0,)]), Form(2, []), Form(2, [()]), Place(2, 0), ((0,),), (2, ((0,),)), Form,
            KindWorker("blind", PAIR, PAIR, [(0, 0, 0)]), Told(2, 2, [0, 0, 0, 1]))
        for manner in ("rank", "either"):
            for value in wrong:
                for row in ((1, value), (value, Form(2, [(0,)])), (1, Form(2, [(0,)]), value), (0, value)):
                    self.hold_bad(manner, PAIR, PERHAPS, [row])
            self.hold_bad(manner, PAIR, PERHAPS, [(1, 0)])
            self.hold_bad(manner, PAIR, PERHAPS, [(1, 1)])
            KindWorker(manner, PAIR, PERHAPS, [(1, Form(2, [(0,)]))])
        # The lesser of two things is of rank, not of either.
        KindWorker("rank", PAIR, PERHAPS, [(1, Form(2, [(0, 1)]))])
        self.hold_bad("either", PAIR, PERHAPS, [(1, Form(2, [(0, 1)]))])
        KindWorker("either", Kind([3]), PERHAPS, [(1, MIDDLE)])

    def test_without_places(self):
        """A shape without places has shapes without places alone in its row."""
        for manner, row in (("blind", (0,)), ("rank", (0,)), ("either", (0,)), ("alike", [(0,)]), ("order", [(0,)])):
            worker = KindWorker(manner, Kind([0]), PERHAPS, [row])
            self.assertEqual(worker.over(3).tells, ((0,),))
        for number in (0, -1, Form(1, [(0,)]), None):
            for manner in ("blind", "rank", "either"):
                self.hold_bad(manner, Kind([0]), PERHAPS, [(1, number)])
            for manner in ("alike", "order"):
                self.hold_bad(manner, Kind([0]), PERHAPS, [[(1, number)]])
        for manner in FIVE:
            for rows in ([(1,)], [[(1,)]], [[]], [()], [[(0,), (0,)]], [(0, 0)], [[(0, 0)]]):
                self.hold_bad(manner, Kind([0]), PERHAPS, rows)


class Telling(Case):
    def hold_told(self, told):
        for manner in FIVE:
            keeps = plainly_keeps(told, manner)
            self.assertIs(kind_keeps(told, manner), keeps)
            rows = first_rows(manner, told.kind.shapes, told.into.shapes, told.things).get(told.tells)
            worker = kind_worker_of(told, manner)
            if rows is None:
                self.assertIsNone(worker)
            else:
                self.assertIs(type(worker), KindWorker)
                self.assertEqual(worker, KindWorker(manner, told.kind, told.into, rows))
                self.assertIs(keeps, True)

    def test_all_over_small_worlds(self):
        """Held against all leads, all functions and all workers."""
        for things, shapes, into in (
                (1, [0, 1], [0, 1]), (1, [2], [2, 0]), (1, [3], [1, 1]), (1, [0, 0, 1, 2], [1, 0]), (1, [3, 1], [3]),
                (2, [1], [0, 1]), (2, [2], [0, 1]), (2, [0, 1], [0, 1]), (2, [2], [1]), (2, [1, 1], [1, 0]), (2, [2], [1, 0]),
                (2, [0, 2], [1]), (2, [0, 1], [2]), (2, [3], [1]), (2, [1, 0], [0, 0, 1]),
                (3, [0, 1], [0, 1]), (3, [1], [1, 1]), (3, [1], [2]), (3, [1, 0], [1]), (4, [1], [1]), (3, [0], [2, 0])):
            for told in all_kind_told(things, Kind(shapes), Kind(into)):
                self.hold_told(told)

    def test_two_places_into_two(self):
        for told in all_kind_told(2, PAIR, PAIR)[::2]:
            self.hold_told(told)

    def test_each_worker_is_found(self):
        chance = random.Random(43)
        for manner, kind, into in itertools.product(FIVE, KINDS, KINDS[3:]):
            found = plain_rows_of_all(manner, kind, into) if kind != KINDS[-1] else []
            for rows in chance.sample(found, min(6, len(found))):
                for things in range(1, 6):
                    told = KindWorker(manner, kind, into, rows).over(things)
                    self.assertIs(kind_keeps(told, manner), True)
                    worker = kind_worker_of(told, manner)
                    self.assertEqual(worker.over(things), told)
                    if things >= max(kind.shapes) and things > 1:
                        self.assertEqual(worker.rows, rows)

    def test_nearly_one(self):
        """With one value changed what keeps a manner over three things or more is no worker's any more."""
        chance = random.Random(44)
        for manner in FIVE:
            for things in (3, 4):
                rows = Making().some_rows(manner, Kind([2, 1]), PERHAPS, chance)
                told = KindWorker(manner, Kind([2, 1]), PERHAPS, rows).over(things)
                for at in range(len(told.tells)):
                    for aim in plain_values(PERHAPS.shapes, things):
                        tells = told.tells[:at] + (aim,) + told.tells[at + 1:]
                        bent = KindTold(things, told.kind, PERHAPS, tells)
                        found = kind_worker_of(bent, manner)
                        self.assertIs(found is not None, tells in first_rows(manner, (2, 1), (0, 1), things))

    def test_keeping_over_three_things_is_a_workers(self):
        """In blind, rank and either over three things; in alike over two more than a shape has places."""
        for told in all_kind_told(3, PERHAPS, PERHAPS) + all_kind_told(3, Kind([1]), PAIR):
            for manner in ("blind", "rank", "either", "alike"):
                self.assertIs(kind_keeps(told, manner), kind_worker_of(told, manner) is not None)

    def test_what_the_world_does_not_ask(self):
        worker = KindWorker("alike", Kind([3]), Kind([2, 0]), [[(0, 0, 0), (1,), (0, 1, 0), (1,), (0, 2, 1)]])
        found = kind_worker_of(worker.over(2), "alike")
        self.assertEqual(found.rows, (((0, 0, 0), (1,), (0, 1, 0), (1,), (0, 0, 0)),))
        found = kind_worker_of(worker.over(1), "alike")
        self.assertEqual(found.rows, (((0, 0, 0),) * 5,))
        self.assertEqual(kind_worker_of(worker.over(3), "alike"), worker)
        rows = [[(1, 0, 0)] * 13]
        worker = KindWorker("order", Kind([3]), Kind([0, 2]), rows)
        found = kind_worker_of(worker.over(2), "order").rows[0]
        asked = [max(ranking) < 2 for ranking in all_rankings(3)]
        self.assertEqual(found, tuple((1, 0, 0) if known else (0,) for known in asked))
        self.assertEqual(kind_worker_of(worker.over(1), "order").rows[0], ((1, 0, 0),) + ((0,),) * 12)

    def test_over_one_thing(self):
        told = KindTold(1, Kind([3, 0]), Kind([0, 2]), [(1, 0, 0), (0,)])
        self.assertEqual(kind_worker_of(told, "blind").rows, ((1, 0, 0), (0,)))
        form = Form(3, [(0,)])
        for manner in ("rank", "either"):
            self.assertEqual(kind_worker_of(told, manner).rows, ((1, form, form), (0,)))
        for manner, many in (("alike", 4), ("order", 12)):
            self.assertEqual(kind_worker_of(told, manner).rows, (((1, 0, 0),) + ((0,),) * many, ((0,),)))

    def test_wrong(self):
        for call in (kind_keeps, kind_worker_of):
            for value in NOT_KINDS:
                if value is not SWAPPED:
                    self.raises(BadKind("told"), call, value, "?")
                    self.raises(BadKind("told"), call, value, "blind")
            for value in (PAIR, PAIR.shapes, SWAPPED.tells, KindWorker("blind", PAIR, PAIR, [(0, 0, 0)])):
                self.raises(BadKind("told"), call, value, "blind")
            for manner in NOT_FIVE:
                self.raises(BadManner("manner"), call, SWAPPED, manner)
        self.assertIs(kind_keeps(manner="blind", told=SWAPPED), True)
        self.assertIsNotNone(kind_worker_of(manner="blind", told=SWAPPED))

    def test_is_not_slow(self):
        """256 values of shapes with three places, into such ones: a few milliseconds here, and a second at most."""
        great = Kind([3, 3, 3, 3])
        lesser = Form(3, [(0, 1, 2)])
        begin = time.process_time()
        for manner, row in (
                ("blind", (3, 2, 1, 0)), ("rank", (1, MIDDLE, lesser, MIDDLE)), ("either", (1, MIDDLE, MIDDLE, MIDDLE)),
                ("alike", [(2, 0, 0, 0)] * 5), ("order", [(2, 0, 0, 0)] * 13)):
            worker = KindWorker(manner, great, great, [row] * 4)
            told = worker.over(4)
            self.assertIs(kind_keeps(told, manner), True)
            self.assertEqual(kind_worker_of(told, manner), worker)
        self.assertLess(time.process_time() - begin, 1)


if __name__ == "__main__":
    unittest.main()
