"""Which Ladders are right, and that no bent paper raises an error."""

import itertools
import random
import unittest

from kindtells.along import Kept, Parting
from kindtells.check_ladder import shows_ladder
from kindtells.errors import BadTold
from kindtells.ladder import Ladder, ladder
from kindtells.leads import Lead
from kindtells.manners import is_of, leads
from kindtells.papers import Denial, Paper
from kindtells.told import Told, inputs
from tests.helpers import GREAT, NOT_INTEGERS, Alike, Case, Odd
from tests.test_along import NOT_TOLD, all_told, plain_parting, plainly_keeps
from tests.test_ladder import EIGHT, asked, plainly_above
from tests.test_told import SIZES, some_told

LEAST = Told(2, 2, [0, 0, 0, 1])
TURN = Parting(Lead(2, [1, 0]), (0, 1))
LEFT = Told(3, 2, [0, 2, 1, 2, 1, 0, 1, 0, 2])


class OwnLadder(Ladder):
    """A class of its own: what it makes is no Ladder."""


class OwnParting(Parting):
    pass


class OwnLead(Lead):
    pass


def plain_ladder(told):
    """The topmost manners; and for each that is not kept all of its leads and inputs at which they part."""
    above = plainly_above(told.things)
    kept = [manner for manner in asked(told.things) if plainly_keeps(told, manner)]
    topmost = [manner for manner in kept if not any((other, manner) in above for other in kept)]
    partings = {
        manner: [(lead, row) for lead in leads(manner, told.things, told.things) for row in plain_parting(told, lead)]
        for manner in asked(told.things) if manner not in kept}
    return topmost, partings


class Right(Case):
    def hold_any(self, told, chance, many):
        """Any Partings of these manners are right, whether or not ladder would tell them."""
        topmost, partings = plain_ladder(told)
        self.assertIs(shows_ladder(told, ladder(told)), True)
        for _ in range(many):
            found = [Parting(*chance.choice(partings[manner])) for manner in partings]
            of = chance.choice((list, tuple))
            self.assertIs(shows_ladder(told, Ladder(of(topmost), of(found))), True)

    def test_small_worlds(self):
        chance = random.Random(31)
        for things, places in ((1, 1), (1, 2), (2, 1), (2, 2), (3, 1)):
            for told in all_told(things, places):
                self.hold_any(told, chance, 5)
        for told in all_told(3, 2)[::900] + some_told(3, 3) + some_told(2, 4) + all_told(4, 1)[::40]:
            self.hold_any(told, chance, 5)

    def test_all_sizes(self):
        for things, places in SIZES:
            for told in some_told(things, places):
                self.assertIs(shows_ladder(told, ladder(told)), True)
        self.assertIs(shows_ladder(value=ladder(LEFT), told=LEFT), True)

    def test_over_one_thing_seven(self):
        seven = EIGHT[:6] + EIGHT[7:]
        for places in (1, 2, 3, 4):
            told = Told(1, places, [0])
            self.assertIs(shows_ladder(told, Ladder(list(seven), [])), True)
            self.assertIs(shows_ladder(told, Ladder(EIGHT, ())), False)
            self.assertIs(shows_ladder(told, Ladder(seven, (Parting(Lead(1, [0]), (0,) * places),))), False)
            self.assertIs(shows_ladder(told, Ladder(("blind",), ())), False)


class BentManners(Case):
    def test_all_lists_of_manners(self):
        """Of all lists of up to three manners just the topmost ones in their order are right."""
        for told in (LEAST, Told(2, 1, [1, 0]), Told(2, 3, [0, 0, 0, 1, 0, 1, 1, 1]), Told(2, 1, [0, 0]), LEFT):
            paper = ladder(told)
            for many in range(4):
                for names in itertools.product(EIGHT, repeat=many):
                    self.assertIs(shows_ladder(told, Ladder(names, paper.partings)), names == paper.manners)

    def test_others(self):
        for names in (
                None, True, 0, "rank", b"rank", {"rank"}, {"rank": 1}, Alike(), [Alike()], ["rank", Alike()], [["rank"]],
                [("rank",)], [b"rank"], [None], [True], [0], ["rank", "order"], ["rank "], ["Rank"], ["r", "a", "n", "k"],
                [1.5], [GREAT], Odd(), str):
            self.assertIs(shows_ladder(LEAST, Ladder(names, [TURN] * 3)), False, names)
        self.assertIs(shows_ladder(LEAST, Ladder(["rank"], [TURN] * 3)), True)


class BentPartings(Case):
    def test_too_many_or_few(self):
        for many in (0, 1, 2, 4, 8):
            self.assertIs(shows_ladder(LEAST, Ladder(("rank",), [TURN] * many)), False)

    def test_of_other_manners_worlds_and_inputs(self):
        """For each lead and input in each place it is plain whether a Parting of them is right there."""
        for told in (LEAST, Told(2, 1, [1, 0]), Told(2, 1, [0, 0]), Told(3, 1, [0, 0, 2]), Told(3, 1, [1, 2, 0])):
            topmost, partings = plain_ladder(told)
            papers = list(ladder(told).partings)
            for at, manner in enumerate(partings):
                for begin, into in itertools.product((told.things, 1, told.things + 1), repeat=2):
                    for lead in leads("blind", begin, into):
                        for row in inputs(begin, told.places):
                            bent = papers[:at] + [Parting(lead, list(row))] + papers[at + 1:]
                            right = begin == into == told.things and is_of(lead, manner)
                            right = right and row in plain_parting(told, lead)
                            self.assertIs(shows_ladder(told, Ladder(topmost, bent)), right)

    def test_in_another_order(self):
        told = Told(3, 1, [1, 2, 0])
        topmost, partings = plain_ladder(told)
        papers = list(ladder(told).partings)
        for order in itertools.islice(itertools.permutations(range(len(papers))), 0, None, 97):
            right = all(is_of(papers[place].lead, manner) for manner, place in zip(partings, order))
            shown = shows_ladder(told, Ladder(topmost, [papers[place] for place in order]))
            self.assertIs(shown, right)

    def test_no_partings(self):
        lead, row = TURN.lead, TURN.row
        for value in NOT_INTEGERS + (
                0, Kept(), Parting, (lead, row), [lead, row], "parting", OwnParting(lead, row), Paper("parting", lead, row),
                Denial("parting", lead, row), Parting(OwnLead(2, [1, 0]), row), Parting(lead, None), Parting(None, row),
                Parting(lead, (0,)), Parting(lead, (0, 1, 0)), Parting(lead, (0, 2)), Parting(lead, (0, True)),
                Parting(lead, "01"), Parting("1 0 : 2", row), Parting((1, 0), row), Parting(Alike(), row),
                Parting(lead, Alike()), Parting(lead, (0, -1)), Parting(lead, (0, GREAT)), Parting(lead, (0, 1.0)),
                Parting(Lead(2, [0, 0]), row), Parting(Lead(2, [0, 1]), row), Parting(lead, (0, 0, 1))):
            for at in range(3):
                papers = [TURN] * 3
                papers[at] = value
                self.assertIs(shows_ladder(LEAST, Ladder(["rank"], papers)), False, value)
        for value in NOT_INTEGERS + (0, TURN, "abc", {0: TURN, 1: TURN, 2: TURN}, [[TURN, TURN, TURN]], Alike()):
            self.assertIs(shows_ladder(LEAST, Ladder(["rank"], value)), False, value)
            empty = isinstance(value, (list, tuple)) and len(value) == 0
            self.assertIs(shows_ladder(Told(2, 1, [0, 1]), Ladder(["blind", "either"], value)), empty, value)


class Others(Case):
    def test_other_papers_and_any_values(self):
        names, partings = ("rank",), (TURN, TURN, TURN)
        for value in NOT_INTEGERS + (
                0, Ladder, OwnLadder(names, partings), Paper("ladder", names, partings), "ladder",
                Denial("ladder", names, partings), (names, partings), Kept(), TURN, LEAST, Odd(), Alike()):
            self.assertIs(shows_ladder(LEAST, value), False, value)

    def test_errors_whatever_the_value_is(self):
        for value in NOT_TOLD:
            for paper in (None, Ladder((), ()), Ladder(None, 1), 1):
                self.raises(BadTold("told"), shows_ladder, value, paper)


if __name__ == "__main__":
    unittest.main()
