"""Which papers show what program tells a function or a family, and that no bent paper raises an error."""

import itertools
import random
import time
import unittest
import unittest.mock

from kindtells.along import Kept, Parting
from kindtells.blocks import Blocks
from kindtells.check_programs import shows_family_what, shows_what
from kindtells.errors import BadFamily, BadManner, BadTold, Misfit
from kindtells.families import Family
from kindtells.filling import Filled, NoFill
from kindtells.forms import Form, all_forms
from kindtells.kinds import Kind, KindTold, KindWorker
from kindtells.leads import Lead, idle
from kindtells.manners import MANNERS, is_of, leads
from kindtells.papers import Denial, Paper
from kindtells.programs import Alone, Program, family_what, what
from kindtells.ranks import Ranks
from kindtells.told import Told, inputs
from kindtells.workers import Place, Thing, Worker
from tests.helpers import GREAT, NOT_INTEGERS, Alike, Case, Odd
from tests.test_along import NOT_TOLD, all_told, manners, plain_parting, plainly_keeps
from tests.test_blocks import all_blocks
from tests.test_check_families import BENT_ROWS
from tests.test_families import plain_partings
from tests.test_filling import some_workers
from tests.test_manners import NO_MANNERS
from tests.test_programs import LEFT, MIDDLE, NOT_FAMILIES, first_worker, plain_workers, told_over
from tests.test_ranks import all_ranks
from tests.test_told import SIZES, some_told

LEAST, OTHER = Told(2, 2, [0, 0, 0, 1]), Told(2, 1, [1, 0])
TURN = Parting(Lead(2, [1, 0]), (0, 1))
LESSER = Family([Form(2, [(0, 1)]).over(2), Form(2, [(0, 1)]).over(3)])


class OwnProgram(Program):
    """Classes of their own: what they make is none of the papers, and no worker of a manner."""


class OwnAlone(Alone):
    pass


class OwnPlace(Place):
    pass


class OwnWorker(Worker):
    def over(self, things):
        raise AssertionError("is no worker that may be asked")


# What is no worker of the package, and workers that do not tell the lesser of two things.
NO_WORKERS = NOT_INTEGERS + (
    0, LEAST, LESSER, Place, Form, OwnPlace(2, 0), OwnWorker(2), Worker(2), (2, ((0, 1),)), [Form(2, [(0, 1)])], Kept(),
    KindWorker("blind", Kind([2]), Kind([2]), [(0, 0, 1)]), Kind([2]), KindTold(1, Kind([0]), Kind([0]), [(0,)]), "place",
    Program(Form(2, [(0, 1)])), Lead(2, [0, 1]), Parting(1, 2), Odd())


def some_other_workers(places):
    """Workers of all manners with so many places."""
    found = [Place(places, place) for place in range(places)] + [Thing(places, thing) for thing in (0, 1)]
    found += list(all_forms(places, "ends"))[:12]
    for manner in ("alike", "order"):
        found += some_workers(manner, places)
    return found


def plainly_of(worker, manner):
    """The workers of each manner, as the document tells them."""
    if type(worker) is Form:
        return manner in ("rank", "either", "least", "ends") and worker.is_of(manner)
    return manner in {Place: ("blind", "one", "two"), Blocks: ("alike",), Ranks: ("order",)}.get(
        type(worker), ("one", "two") if worker == Thing(worker.places, 0) else ("two",))


class Programs(Case):
    def test_all_workers_of_all_manners(self):
        for places in (1, 2):
            workers = some_other_workers(places) + all_blocks(places) + all_ranks(places)
            for things in (1, 2, 3):
                told = [worker.over(things) for worker in workers if worker != Thing(places, 1) or things > 1]
                for one in told[::3] + some_told(things, places):
                    for manner, worker in itertools.product(manners(things), workers):
                        right = plainly_of(worker, manner) and worker.over(things) == one
                        self.assertIs(shows_what(one, manner, Program(worker)), right)

    def test_any_worker_that_tells_it(self):
        """Not the first one alone."""
        for manner in manners(1):
            for places in (1, 2, 3):
                for worker in plain_workers(manner, places) if places < 3 or manner != "order" else ():
                    self.assertIs(shows_what(Told(1, places, [0]), manner, Program(worker)), True)
        for worker in all_blocks(3):
            self.assertIs(shows_what(Blocks(3, [0, 1, 1, 0, 2]).over(2), "alike", Program(worker)),
                          worker.chosen[:4] == (0, 1, 1, 0))
        for form in all_forms(2, "ends"):
            shown = [shows_what(Told(1, 2, [0]), manner, Program(form)) for manner in ("rank", "either", "least", "ends")]
            self.assertEqual(shown, [form.is_of(manner) for manner in ("rank", "either", "least", "ends")])

    def test_of_more_places_and_other_choices(self):
        right = Form(2, [(0, 1)])
        self.assertIs(shows_what(LEAST, "rank", Program(right)), True)
        for worker in (
                Form(3, [(0, 1)]), Form(1, [(0,)]), Form(4, [(0, 1)]), Form(2, []), Form(2, [()]), Form(2, [(0,)]), Place(2, 0),
                Form(2, [(0,), (1,)]), Blocks(2, [0, 0]), Ranks(2, [0, 0, 0])):
            for manner in ("rank", "either", "least", "ends"):
                self.assertIs(shows_what(LEAST, manner, Program(worker)), False)
        self.assertIs(shows_what(LEAST, "order", Program(Ranks(2, [0, 0, 0]))), True)
        for chosen in ([0, 0, 1], [0, 1, 0], [0, 1, 1]):
            self.assertIs(shows_what(LEAST, "order", Program(Ranks(2, chosen))), False)
        for places in (1, 2, 3, 4):
            self.assertIs(shows_what(Place(2, 0).over(3), "blind", Program(Place(places, 0))), places == 2)
            self.assertIs(shows_what(Told(2, 2, [0] * 4), "one", Program(Thing(places, 0))), places == 2)
            # Over five things a worker of four places has too many values to be asked.
            self.assertIs(shows_what(Place(1, 0).over(5), "blind", Program(Place(places, 0))), places == 1)
            family = Family([Place(3, 0).over(5), Place(3, 0).over(2)])
            self.assertIs(shows_family_what(family, "two", Program(Place(places, 0))), places == 3)

    def test_no_workers(self):
        for value in NO_WORKERS + (Alike(),):
            for manner in MANNERS:
                self.assertIs(shows_what(LEAST, manner, Program(value)), False, value)
                self.assertIs(shows_family_what(LESSER, manner, Program(value)), False, value)
        for manner in ("blind", "one", "two"):
            self.assertIs(shows_what(Place(2, 0).over(2), manner, Program(OwnPlace(2, 0))), False)

    def test_great_worlds(self):
        for things, places in SIZES:
            for manner in manners(things):
                for worker in some_workers(manner, places):
                    self.assertIs(shows_what(worker.over(things), manner, Program(worker)), True)


class Partings(Case):
    def test_all_leads_and_inputs(self):
        for told in (LEAST, OTHER, Told(2, 1, [1, 1]), Told(3, 1, [1, 1, 2]), Told(3, 1, [0, 2, 1]), LEFT, MIDDLE.over(2)):
            for manner in MANNERS:
                for begin, into in ((told.things, told.things), (told.things, 3), (2, told.things), (1, 1), (4, 2)):
                    for lead in leads("blind", begin, into):
                        parts = plain_parting(told, lead) if begin == into == told.things else []
                        for row in inputs(begin, told.places):
                            right = row in parts and is_of(lead, manner)
                            self.assertIs(shows_what(told, manner, Parting(lead, list(row))), right)

    def test_bent_rows_and_leads(self):
        self.assertIs(shows_what(LEAST, "blind", TURN), True)
        for row in BENT_ROWS + ((0, 2), (2, 2), (0, 0), (1, 1), Alike(), (0, Alike())):
            self.assertIs(shows_what(LEAST, "blind", Parting(TURN.lead, row)), False, row)
        for lead in NOT_INTEGERS + (0, (1, 0), "1 0 : 2", Lead, LEAST, Alike(), idle(2), idle(3), Lead(3, [1, 0]), Lead(2, [1])):
            for manner in MANNERS:
                self.assertIs(shows_what(LEAST, manner, Parting(lead, (0, 1))), False, lead)

    def test_is_asked_by_its_own_lead_and_input_alone(self):
        """Which worker tells it, and what it keeps, is not found out for a Parting."""
        with unittest.mock.patch("kindtells.check_programs.worker_of", side_effect=AssertionError):
            with unittest.mock.patch("kindtells.check_programs.family_kept", side_effect=AssertionError):
                self.assertIs(shows_what(LEAST, "blind", TURN), True)
                self.assertIs(shows_what(LEAST, "rank", TURN), False)
                self.assertIs(shows_what(LEAST, "rank", Program(Form(2, [(0, 1)]))), True)
                self.assertIs(shows_family_what(LESSER, "blind", TURN), True)

    def test_families(self):
        for family in (
                LESSER, Family([Told(1, 1, [0]), OTHER]), Family([Told(2, 1, [1, 1]), Told(3, 1, [1, 1, 2])]),
                Family([Told(1, 2, [0]), LEFT])):
            for manner in manners(min(family.worlds)):
                right = [(repr(lead.row), lead.into, row) for lead, row in plain_partings(family, manner)]
                for begin, into in itertools.product((1, 2, 3, 4), repeat=2):
                    for lead in leads("blind", begin, into)[::1 if begin < 4 else 9]:
                        for row in inputs(begin, family.places):
                            shown = shows_family_what(family, manner, Parting(lead, row))
                            self.assertIs(shown, (repr(lead.row), into, row) in right)

    def test_family_rows_are_of_the_world_where_the_lead_begins(self):
        up, down = Lead(3, [1, 0]), Lead(2, [1, 1, 0])
        for lead, row, right in (
                (up, (0, 1), True), (up, (1, 0), True), (up, (0, 2), False), (up, (0,), False), (up, (0, 1, 0), False),
                (down, (0, 2), True), (down, (0, 1), False), (down, (0, 3), False), (Lead(4, [1, 0]), (0, 1), False),
                (Lead(3, [1, 0, 0, 0]), (0, 1), False)):
            self.assertIs(shows_family_what(LESSER, "blind", Parting(lead, row)), right)


class Alones(Case):
    def test_all_over_small_worlds(self):
        for things, places in ((1, 1), (1, 3), (2, 1), (2, 2), (3, 1)):
            for told in all_told(things, places):
                for manner in manners(things):
                    right = plainly_keeps(told, manner) and first_worker((told,), manner) is None
                    self.assertIs(shows_what(told, manner, Alone()), right)
                    self.assertIs(shows_family_what(Family([told]), manner, Alone()), right)
        for told in all_told(2, 3)[::7] + all_told(3, 2)[::997] + [LEFT]:
            for manner in MANNERS[:8]:
                right = plainly_keeps(told, manner) and told.tells not in told_over(manner, told.places, told.things)
                self.assertIs(shows_what(told, manner, Alone()), right)

    def test_families(self):
        for worlds, places in (((1, 2), 1), ((2, 3), 1), ((1, 2), 2)):
            for members in itertools.product(*[all_told(things, places) for things in worlds]):
                family = Family(members)
                for manner in manners(min(worlds)):
                    right = not plain_partings(family, manner) and first_worker(members, manner) is None
                    self.assertIs(shows_family_what(family, manner, Alone()), right)


class Papers(Case):
    def test_what_is_returned(self):
        chance = random.Random(111)
        for things, places in SIZES:
            found = some_told(things, places)
            found.append(Told(things, places, [chance.choice(row) for row in inputs(things, places)]))
            for told in found:
                for manner in manners(things):
                    self.assertIs(shows_what(told, manner, what(told, manner)), True)
                    family = Family([told])
                    self.assertIs(shows_family_what(family, manner, family_what(family, manner)), True)
        for worlds, places in (((1, 2), 1), ((2, 3), 1), ((1, 3), 1)):
            for members in itertools.product(*[all_told(things, places) for things in worlds]):
                for manner in manners(min(worlds)):
                    family = Family(members)
                    self.assertIs(shows_family_what(family, manner, family_what(family, manner)), True)

    def test_programs_of_families(self):
        for manner in MANNERS:
            for places in (1, 2, 3):
                for worker, other in itertools.product(some_workers(manner, places), repeat=2):
                    family = Family([worker.over(2), worker.over(4)])
                    right = other.over(2) == worker.over(2) and other.over(4) == worker.over(4)
                    self.assertIs(shows_family_what(family, manner, Program(other)), right)
                    bent = Family([other.over(2), worker.over(4)])
                    right = other.over(2) == worker.over(2)
                    self.assertIs(shows_family_what(bent, manner, Program(worker)), right)
        for worker in (Place(2, 0), Form(3, [(0, 1)]), Form(2, [(0,)]), Blocks(2, [0, 0]), Thing(2, 0), Place(4, 0)):
            self.assertIs(shows_family_what(LESSER, "rank", Program(worker)), False)
        self.assertIs(shows_family_what(LESSER, "rank", Program(Form(2, [[0, 1]]))), True)
        self.assertIs(shows_family_what(LESSER, "order", Program(Ranks(2, [0, 0, 0]))), True)

    def test_other_papers_and_any_values(self):
        right, form = (TURN.lead, TURN.row), Form(2, [(0, 1)])
        for value in NOT_INTEGERS + (
                0, form, (form,), Paper("program", form), OwnProgram(form), Denial("alone"), OwnAlone(), Paper("alone"), right,
                Program, Alone, Parting, Denial("parting", *right), Paper("parting", *right), Kept(), Filled(LEAST),
                NoFill((0, 1)), LEAST, LESSER, "alone", "program", Odd(), Alike()):
            for manner in MANNERS:
                self.assertIs(shows_what(LEAST, manner, value), False, value)
                self.assertIs(shows_what(OTHER, manner, value), False, value)
                self.assertIs(shows_family_what(LESSER, manner, value), False, value)

    def test_errors_whatever_the_value_is(self):
        for paper in (None, Alone(), TURN, Program(None), Program(Form(2, [(0, 1)])), Program(Thing(1, 1)), 1):
            for value in NOT_TOLD:
                self.raises(BadTold("told"), shows_what, value, "?", paper)
            for value in NOT_FAMILIES:
                self.raises(BadFamily("family"), shows_family_what, value, "?", paper)
            for manner in NO_MANNERS:
                self.raises(BadManner("manner"), shows_what, LEAST, manner, paper)
                self.raises(BadManner("manner"), shows_family_what, LESSER, manner, paper)
            self.raises(Misfit("things"), shows_what, Told(1, 1, [0]), "two", paper)
            for family in (Family([Told(1, 1, [0])]), Family([OTHER, Told(1, 1, [0])])):
                self.raises(Misfit("things"), shows_family_what, family, "two", paper)
        self.assertIs(shows_what(value=Alone(), manner="alike", told=OTHER), True)
        self.assertIs(shows_family_what(value=Alone(), manner="alike", family=Family([LEFT])), True)

    def test_numbers_beyond_all_bounds(self):
        for number in (GREAT, -GREAT):
            self.assertIs(shows_what(LEAST, "blind", Parting(TURN.lead, (0, number))), False)
            self.assertIs(shows_family_what(LESSER, "blind", Parting(TURN.lead, (number, 0))), False)

    def test_is_not_slow(self):
        told = MIDDLE.over(5)
        begin = time.process_time()
        for manner in MANNERS:
            for _ in range(5):
                self.assertIs(shows_what(told, manner, what(told, manner)), True)
        self.assertLess(time.process_time() - begin, 3)


if __name__ == "__main__":
    unittest.main()
