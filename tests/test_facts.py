"""What the document promises over the whole program: workers tell in all worlds what one world tells of them."""

import itertools
import random
import unittest

from kindtells.along import Kept, keeps
from kindtells.blocks import Blocks, put_blocks
from kindtells.families import Family, family_kept
from kindtells.filling import Filled, filled
from kindtells.forms import Form, all_forms, put
from kindtells.ladder import kept_manners, ladder
from kindtells.leads import idle
from kindtells.manners import MANNERS, few_leads, is_of, leads
from kindtells.merged import merged
from kindtells.programs import Program, family_what, kept_all, many_kept, what
from kindtells.ranks import Ranks, form_of_ranks
from kindtells.told import Told, inputs
from kindtells.workers import Place, Thing
from tests.helpers import Case
from tests.test_along import all_told, manners
from tests.test_blocks import all_blocks, some_blocks
from tests.test_filling import some_workers
from tests.test_programs import plain_workers


def worlds_of(manner, places):
    return [things for things in range(2 if manner == "two" else 1, 6) if things ** places <= 256]


class Workers(Case):
    def test_workers_keep_their_manner_in_and_between_all_worlds(self):
        for manner, places in itertools.product(MANNERS, (1, 2, 3, 4)):
            for worker in some_workers(manner, places):
                worlds = worlds_of(manner, places)
                family = Family([worker.over(things) for things in worlds])
                self.assertEqual(family_kept(family, manner), Kept())
                self.assertEqual(family_what(family, manner), Program(worker))

    def test_which_worker_tells_is_shown_by_few_things(self):
        """What keeps a manner over three things (two: four; alike: two more than places) is a worker's over all."""
        for manner in ("blind", "rank", "either", "least", "ends", "one", "two", "alike"):
            for places in (1, 2):
                things = {"two": 4, "alike": places + 2}.get(manner, 3)
                for told in kept_all(manner, things, places):
                    paper = what(told, manner)
                    self.assertIs(type(paper), Program)
                    for more in worlds_of(manner, places):
                        self.assertIs(keeps(paper.worker.over(more), manner), True)

    def test_workers_of_more_manners(self):
        """Who is a worker of one manner keeps each manner whose leads are leads of it."""
        below = (("blind", manner) for manner in MANNERS)
        below = list(below) + [
            ("either", "rank"), ("rank", "least"), ("least", "ends"), ("one", "least"), ("one", "two"), ("rank", "order"),
            ("alike", "order")]
        for greater, lesser in below:
            for places in (1, 2, 3):
                for worker in some_workers(greater, places):
                    for things in worlds_of(lesser, places):
                        self.assertIs(keeps(worker.over(things), lesser), True)

    def test_forms_of_rank_are_ranks_that_fit(self):
        for places in (1, 2, 3):
            for form in all_forms(places, "rank"):
                paper = what(form.over(max(2, places)), "order")
                self.assertEqual([type(paper.worker), form_of_ranks(paper.worker)], [Ranks, form])

    def test_how_many_workers_there_are(self):
        for manner, counts in (
                ("blind", (1, 2, 3, 4)), ("one", (2, 3, 4, 5)), ("two", (3, 4, 5, 6)), ("rank", (1, 4, 18, 166)),
                ("either", (1, 2, 4, 12)), ("least", (2, 5, 19, 167)), ("ends", (3, 6, 20, 168))):
            self.assertEqual([len(plain_workers(manner, places)) for places in (1, 2, 3, 4)], list(counts))
            self.assertEqual([many_kept(manner, 4, places) for places in (1, 2, 3, 4)], list(counts))
        self.assertEqual([many_kept("alike", places + 2, places) for places in (1, 2, 3)], [1, 2, 24])


class Keeping(Case):
    def test_idle_leads_and_manners_that_ask_nothing(self):
        for told in all_told(2, 2):
            for manner in ("ends", "two", "order"):
                self.assertIs(keeps(told, manner), True)
        self.assertTrue(all(is_of(idle(things), manner) for things in (2, 3) for manner in MANNERS))
        self.assertEqual([few_leads("order", things) for things in (1, 2, 3, 4, 5)], [()] * 5)

    def test_over_one_thing_each_keeps_all(self):
        for places in (1, 2, 3, 4):
            for manner in manners(1):
                self.assertEqual([many_kept(manner, 1, places), len(kept_all(manner, 1, places))], [1, 1])

    def test_alike_and_another_one_make_blind(self):
        """Who keeps alike and one of rank, either, least, one keeps blind; from three things on ends and two, too."""
        found = all_told(2, 2) + all_told(2, 3)[::3] + all_told(3, 1) + [
            told for manner in ("alike", "ends", "two") for told in kept_all(manner, 3, 2)]
        for told in found:
            kept = kept_manners(told)
            more = ("rank", "either", "least", "one") + (("ends", "two") if told.things > 2 else ())
            if "alike" in kept:
                self.assertIs("blind" in kept, any(manner in kept for manner in more))
                if "blind" not in kept and told.things > 2:
                    self.assertEqual(ladder(told).manners, ("alike",))

    def test_what_is_put_together_keeps_what_all_keep(self):
        chance = random.Random(121)
        for manner in MANNERS[:8]:
            found = kept_all(manner, 3, 2)
            for _ in range(8):
                outer, first, second = [chance.choice(found) for _ in range(3)]
                tells = [outer.at([first.at(row), second.at(row)]) for row in inputs(3, 2)]
                self.assertIs(keeps(Told(3, 2, tells), manner), True)
                self.assertIs(keeps(merged(outer, 0, 1), manner), True)

    def test_leads_of_manners_lie_within_others(self):
        for things in (2, 3, 4):
            rows = {manner: {lead.row for lead in leads(manner, things, things)} for manner in MANNERS}
            for lesser, greater in (
                    ("ends", "least"), ("least", "rank"), ("least", "one"), ("rank", "either"), ("two", "one"),
                    ("order", "rank"), ("order", "alike")):
                self.assertTrue(rows[lesser] <= rows[greater])
            self.assertEqual(rows["order"], {tuple(range(things))})


class Filling(Case):
    def test_just_one_fills_a_workers_family_over_another_world(self):
        for manner in ("blind", "rank", "either", "least", "ends", "one", "two"):
            for worker in some_workers(manner, 2):
                family = Family([worker.over(4)])
                for things in (2, 3, 5):
                    self.assertEqual(filled(family, manner, things), Filled(worker.over(things)))

    def test_the_program_of_what_fills(self):
        most = Form(3, [(0, 1), (0, 2), (1, 2)])
        told = filled(Family([most.over(2)]), "either", 4).told
        self.assertEqual(what(told, "either"), Program(most))
        self.assertEqual(what(filled(Family([Thing(2, 1).over(4)]), "two", 5).told, "two"), Program(Thing(2, 1)))


class Making(Case):
    def test_workers_put_into_workers(self):
        chance = random.Random(122)
        for _ in range(12):
            forms = [chance.choice(all_forms(2, "rank")) for _ in range(2)]
            outer = chance.choice(all_forms(2, "rank"))
            tells = [outer.at([form.at(row, 3) for form in forms], 3) for row in inputs(3, 2)]
            self.assertEqual(what(Told(3, 2, tells), "rank"), Program(put(outer, forms)))
            blocks = some_blocks(3, 3, chance.randrange(99))
            outer = chance.choice(all_blocks(3))
            tells = [outer.at([each.at(row, 4) for each in blocks], 4) for row in inputs(4, 3)]
            self.assertEqual(what(Told(4, 3, tells), "alike"), Program(put_blocks(outer, blocks)))

    def test_places_are_workers_of_three_manners(self):
        for place in range(3):
            told = Place(3, place).over(3)
            for manner in ("blind", "one", "two"):
                self.assertEqual(what(told, manner), Program(Place(3, place)))
            for manner in ("rank", "either", "least", "ends"):
                self.assertEqual(what(told, manner), Program(Form(3, [(place,)])))
            self.assertEqual(type(what(told, "alike").worker), Blocks)
            self.assertEqual(type(what(told, "order").worker), Ranks)


if __name__ == "__main__":
    unittest.main()
