"""Point 4: who has met whom, and who has not."""

import random

from newfaces.meetings import met, unmet
from newfaces.parties import Party
from tests.plain import PARTIES, AskingCase


def plain_met(guests, plan):
    return [[other for other in range(guests)
             if other != guest and any(guest in table and other in table for tables in plan for table in tables)]
            for guest in range(guests)]


def some_plan(chance, guests, size):
    """A plan in which some are away, and some may sit together twice."""
    plan = []
    for number in range(chance.randrange(5)):
        standing, tables = chance.sample(range(guests), guests), []
        while standing and len(tables) < guests // size:
            many = chance.randint(1, size)
            tables.append(tuple(sorted(standing[:many])))
            standing = standing[many:]
        plan.append(tuple(sorted(tables)))
    return plan


class MeetingsTest(AskingCase):

    def check(self, party, plan, wanted):
        told, others = self.ask(met, party, plan), self.ask(unmet, party, plan)
        self.assertEqual(told, wanted)
        self.check_kind(told, [[int]])
        self.check_kind(others, [[int]])
        self.assertEqual(len(others), party.guests())
        for guest in range(party.guests()):
            self.assertEqual(told[guest], sorted(told[guest]))
            self.assertEqual(others[guest], sorted(others[guest]))
            everyone = sorted(told[guest] + others[guest] + [guest])
            self.assertEqual(everyone, list(range(party.guests())))

    def test_the_plan_of_no_rounds(self):
        self.check(Party(4, 2), [], [[], [], [], []])
        self.assertEqual(unmet(Party(4, 2), []), [[1, 2, 3], [0, 2, 3], [0, 1, 3], [0, 1, 2]])
        self.check(Party(2, 2), [], [[], []])
        self.check(Party(64, 8), [], [[]] * 64)

    def test_full_rounds(self):
        self.check(Party(4, 2), [((0, 1), (2, 3)), ((0, 3), (1, 2))], [[1, 3], [0, 2], [1, 3], [0, 2]])
        self.assertEqual(unmet(Party(4, 2), [((0, 1), (2, 3)), ((0, 3), (1, 2))]), [[2], [3], [0], [1]])
        self.check(Party(6, 3), [((0, 2, 5), (1, 3, 4))], [[2, 5], [3, 4], [0, 5], [1, 4], [1, 3], [0, 2]])
        self.assertEqual(unmet(Party(6, 3), [((0, 2, 5), (1, 3, 4))]),
                         [[1, 3, 4], [0, 2, 5], [1, 3, 4], [0, 2, 5], [0, 2, 5], [1, 3, 4]])

    def test_who_has_met_all(self):
        self.check(Party(2, 2), [((0, 1),)], [[1], [0]])
        self.assertEqual(unmet(Party(2, 2), [((0, 1),)]), [[], []])
        self.assertEqual(unmet(Party(8, 8), [(tuple(range(8)),)]), [[]] * 8)

    def test_rounds_in_which_guests_are_away(self):
        plan = [((0, 4), (1,)), (), ((2, 3, 4),), ((5,),)]
        self.check(Party(6, 3), plan, [[4], [], [3, 4], [2, 4], [0, 2, 3], []])
        self.assertEqual(unmet(Party(6, 3), plan),
                         [[1, 2, 3, 5], [0, 2, 3, 4, 5], [0, 1, 5], [0, 1, 5], [1, 5], [0, 1, 2, 3, 4]])

    def test_rounds_at_which_nobody_meets(self):
        self.check(Party(4, 2), [(), ((0,), (3,)), ((2,),)], [[], [], [], []])

    def test_who_meets_more_than_once_is_told_once(self):
        plan = [((0, 1), (2, 3)), ((0, 1),), ((0, 2),), ((0, 1), (2, 3))]
        self.check(Party(4, 2), plan, [[1, 2], [0], [0, 3], [2]])
        self.assertEqual(unmet(Party(4, 2), plan), [[3], [2, 3], [1], [0, 1]])

    def test_lists_rise_whatever_the_order_of_the_rounds(self):
        plan = [((0, 5),), ((0, 3),), ((0, 4),), ((0, 1),)]
        self.check(Party(6, 2), plan, [[1, 3, 4, 5], [0], [], [0], [0], [0]])
        self.check(Party(6, 2), plan[::-1], [[1, 3, 4, 5], [0], [], [0], [0], [0]])

    def test_a_party_of_64_guests(self):
        rows = tuple(tuple(range(at, at + 8)) for at in range(0, 64, 8))
        columns = tuple(tuple(range(at, 64, 8)) for at in range(8))
        self.check(Party(64, 8), [rows, columns], plain_met(64, [rows, columns]))
        last = [7, 15, 23, 31, 39, 47, 55, 56, 57, 58, 59, 60, 61, 62]
        self.assertEqual(met(Party(64, 8), [rows, columns])[63], last)
        self.check(Party(64, 2), [((0, 63), (1, 62))], [[63], [62]] + [[]] * 60 + [[1], [0]])

    def test_plans_of_all_parties(self):
        chance = random.Random(4)
        for guests, size in PARTIES:
            for number in range(4):
                plan = some_plan(chance, guests, size)
                with self.subTest(guests=guests, size=size, plan=plan):
                    self.check(Party(guests, size), plan, plain_met(guests, plan))

    def test_the_lists_of_guests_are_apart(self):
        for function in (met, unmet):
            told = function(Party(4, 2), [])
            told[0].append("more")
            self.assertEqual(told[1:], function(Party(4, 2), [])[1:])
