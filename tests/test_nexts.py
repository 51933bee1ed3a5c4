"""Points 5 and 15: the rounds that may come next."""

import itertools
import random

from newfaces.nexts import next_rounds
from newfaces.parties import Party
from newfaces.rounds import fault
from tests.plain import PARTIES, AskingCase, all_full_rounds, alone, plain_next

SMALL = [(guests, size) for guests, size in PARTIES if guests <= 9]


class NextRoundsTest(AskingCase):

    def check(self, party, plan, wanted):
        told = self.ask(next_rounds, party, plan)
        self.assertEqual(told, wanted)
        self.check_rounds(told)

    def check_plain(self, party, plan):
        self.check(party, plan, plain_next(party.guests(), party.size(), plan))

    def test_all_full_rounds_of_small_parties(self):
        self.check(Party(4, 2), [], [((0, 1), (2, 3)), ((0, 2), (1, 3)), ((0, 3), (1, 2))])
        six = [((0, 1, 2), (3, 4, 5)), ((0, 1, 3), (2, 4, 5)), ((0, 1, 4), (2, 3, 5)), ((0, 1, 5), (2, 3, 4)),
               ((0, 2, 3), (1, 4, 5)), ((0, 2, 4), (1, 3, 5)), ((0, 2, 5), (1, 3, 4)), ((0, 3, 4), (1, 2, 5)),
               ((0, 3, 5), (1, 2, 4)), ((0, 4, 5), (1, 2, 3))]
        self.check(Party(6, 3), [], six)

    def test_how_many_there_are_in_all(self):
        # All orders of the guests, by the orders at each table and of the tables.
        for (guests, size), many in {(6, 2): 15, (8, 2): 105, (8, 4): 35, (9, 3): 280}.items():
            told = self.ask(next_rounds, Party(guests, size), [])
            self.assertEqual((len(told), told[0]), (many, tuple(zip(*[iter(range(guests))] * size))))
            self.assertEqual(told, sorted(set(told)))

    def test_parties_of_one_table(self):
        for guests in range(2, 9):
            everyone = (tuple(range(guests)),)
            self.check(Party(guests, guests), [], [everyone])
            self.check(Party(guests, guests), [everyone], [])
            self.check(Party(guests, guests), [((0, guests - 1),)], [])
            self.check(Party(guests, guests), [((0,),), ((guests - 1,),), ()], [everyone])

    def test_behind_some_rounds(self):
        four = Party(4, 2)
        self.check(four, [((0, 2), (1, 3))], [((0, 1), (2, 3)), ((0, 3), (1, 2))])
        self.check(four, [((0, 2), (1, 3)), ((0, 1), (2, 3))], [((0, 3), (1, 2))])
        six = [((0, 1), (2, 3), (4, 5)), ((0, 2), (1, 4), (3, 5)), ((0, 3), (1, 5), (2, 4))]
        self.check(Party(6, 2), six, [((0, 4), (1, 3), (2, 5)), ((0, 5), (1, 2), (3, 4))])

    def test_where_none_comes(self):
        self.check(Party(4, 2), [((0, 1), (2, 3)), ((0, 2), (1, 3)), ((0, 3), (1, 2))], [])
        # Guests 0, 1 and 2 have met each of the others, and they are three.
        self.check(Party(6, 2), alone(*itertools.product((0, 1, 2), (3, 4, 5))), [])
        for tables, together in all_full_rounds(6, 3):
            self.check(Party(6, 3), [tables], [])
        self.check(Party(8, 4), [((0, 1, 2, 3), (4, 5, 6, 7))], [])

    def test_behind_rounds_in_which_guests_are_away(self):
        four = Party(4, 2)
        self.check(four, [((0, 1),)], [((0, 2), (1, 3)), ((0, 3), (1, 2))])
        self.check(four, [(), ((0,), (1,)), ((2, 3),)], [((0, 2), (1, 3)), ((0, 3), (1, 2))])
        self.check(four, [(), ((0,), (1,)), ((2,),)], [((0, 1), (2, 3)), ((0, 2), (1, 3)), ((0, 3), (1, 2))])
        self.check_plain(Party(9, 3), [((0, 1), (2, 5, 8)), ((3,), (4, 7)), ()])
        self.check_plain(Party(6, 3), [((0, 1),), ((2, 5),)])

    def test_all_who_sit_together_are_looked_at(self):
        # Not just those beside each other at a table, and not just those with the first.
        for pair in ((0, 1), (0, 2), (1, 2), (0, 3), (1, 3), (2, 3)):
            told = next_rounds(Party(8, 4), alone(pair))
            self.assertEqual(told, plain_next(8, 4, alone(pair)))
            self.assertEqual(len(told), 20)

    def test_behind_a_plan_that_is_not_good(self):
        self.check(Party(4, 2), [((0, 1), (2, 3)), ((0, 1),)], [((0, 2), (1, 3)), ((0, 3), (1, 2))])

    def test_nine_guests_at_tables_of_three(self):
        nine = Party(9, 3)
        plan = [((0, 1, 2), (3, 4, 5), (6, 7, 8)), ((0, 3, 6), (1, 4, 7), (2, 5, 8))]
        self.check_plain(nine, plan[:1])
        self.assertEqual(len(next_rounds(nine, plan[:1])), 36)
        self.check(nine, plan, [((0, 4, 8), (1, 5, 6), (2, 3, 7)), ((0, 5, 7), (1, 3, 8), (2, 4, 6))])
        self.check(nine, plan + [((0, 4, 8), (1, 5, 6), (2, 3, 7))], [((0, 5, 7), (1, 3, 8), (2, 4, 6))])
        self.check(nine, plan + [((0, 4, 8),)], [((0, 5, 7), (1, 3, 8), (2, 4, 6))])

    def test_each_told_keeps_a_good_plan_good(self):
        nine, plan = Party(9, 3), [((0, 1, 2), (3, 4, 5)), ((0, 3, 6), (1, 4), (2, 5))]
        for tables in next_rounds(nine, plan):
            self.assertIsNone(fault(nine, plan + [tables]))
            self.assertEqual(sum(map(len, tables)), 9)

    def test_plans_of_all_small_parties(self):
        chance = random.Random(5)
        for guests, size in SMALL:
            for number in range(12):
                pairs = list(itertools.combinations(range(guests), 2))
                plan = alone(*chance.sample(pairs, chance.randrange(len(pairs) * 2 // 3 + 1)))
                with self.subTest(guests=guests, size=size, plan=plan):
                    self.check_plain(Party(guests, size), plan)
