"""Point 14: what is told of a plan and of the same with its guests renamed and its rounds in another order."""

import itertools
import random

from newfaces.alike import alike
from newfaces.longest import bound, longest
from newfaces.nexts import next_rounds
from newfaces.parties import Party
from newfaces.rounds import fault
from newfaces.turnings import rounds_made, turned
from tests.plain import AskingCase, alone, plain_turned, some_full_round, some_round

PLANS = {
    (4, 2): [[], [((0, 1), (2, 3))], alone((0, 1), (1, 2)), alone((0, 1), (0, 1)), alone((0, 1), (0, 2), (0, 3))],
    (6, 2): [[((0, 3), (1, 4), (2, 5)), ((0, 4), (1, 5)), ((0, 5), (1, 3), (2, 4))],
             alone((1, 3), (3, 4), (2, 4), (1, 2)), [((0, 1), (2, 3)), ((0, 2), (1, 4)), ((4, 5),), ((1, 4),)]],
    (6, 3): [[], [((0, 1), (2, 5))], [((0, 1, 2), (3, 4, 5))], alone((1, 4), (1, 5))],
    (8, 4): [[((0, 1), (2, 3))], [((0, 1, 2, 3), (4, 5, 6, 7))]],
    (9, 3): [[((0, 1, 2), (3, 4, 5), (6, 7, 8)), ((0, 3, 6), (1, 4), (2, 5))], [((0, 1), (2, 5, 8)), ((3,), (4, 7))],
             alone((1, 6), (6, 7), (0, 7), (0, 1), (2, 8)), [((0, 1, 2),), ((3, 4, 5), (6, 7, 8)), ((1, 2, 3),)]],
}


class RenamedPlansTest(AskingCase):

    def check(self, party, one, other):
        self.assertEqual(bound(party, one)[0], bound(party, other)[0])
        self.assertEqual(fault(party, one) is None, fault(party, other) is None)
        # Of larger parties nothing is promised of the rest.
        if party.guests() > 9:
            return
        self.assertEqual(len(longest(party, one)[0]), len(longest(party, other)[0]))
        after, after_other = next_rounds(party, one), next_rounds(party, other)
        self.assertEqual(len(after), len(after_other))
        # By the turning that takes the one to the other, what comes next goes to what comes next.
        turning = alike(party, one, other)
        self.assertEqual(sorted(turned(party, tables, turning) for tables in one), sorted(other))
        self.assertEqual(sorted(turned(party, tables, turning) for tables in after), after_other)

    def check_renamed(self, party, plan, turning, order):
        with self.subTest(plan=plan, turning=turning, order=order):
            other = [turned(party, plan[at], turning) for at in order]
            self.assertEqual(other, [plain_turned(plan[at], turning) for at in order])
            self.check(party, plan, other)

    def test_small_plans_renamed(self):
        chance = random.Random(14)
        for (guests, size), plans in PLANS.items():
            for plan in plans:
                for number in range(6):
                    turning = chance.sample(range(guests), guests)
                    self.check_renamed(Party(guests, size), plan, turning, chance.sample(range(len(plan)), len(plan)))

    def test_all_names_and_orders_of_a_small_plan(self):
        plan = [((0, 1), (2, 3)), ((0, 2),), ((1,),)]
        for turning in itertools.permutations(range(4)):
            for order in itertools.permutations(range(3)):
                self.check_renamed(Party(4, 2), plan, list(turning), order)

    def test_what_is_told_of_next_rounds_is_renamed_too(self):
        party, plan, turning = Party(9, 3), PLANS[(9, 3)][0], [4, 8, 0, 2, 6, 1, 3, 7, 5]
        other = [turned(party, tables, turning) for tables in plan]
        wanted = sorted(turned(party, tables, turning) for tables in next_rounds(party, plan))
        self.assertEqual(next_rounds(party, other), wanted)

    def test_plans_that_are_alike_or_are_told_apart(self):
        # None of these was made by renaming another.
        chance, found, apart = random.Random(24), 0, 0
        for guests, size in ((4, 2), (6, 2), (6, 3), (8, 4)):
            party = Party(guests, size)
            plans = [[chance.choice((some_round, some_full_round))(chance, guests, size) for at in range(2)]
                     for number in range(40)]
            for one, other in itertools.combinations(plans, 2):
                if alike(party, one, other) is not None:
                    self.check(party, one, other)
                    found += 1
                elif bound(party, one)[0] != bound(party, other)[0]:
                    apart += 1
        self.assertGreater(found, 100)
        self.assertGreater(apart, 100)

    def test_large_parties(self):
        chance = random.Random(15)
        for guests, size in ((64, 2), (49, 7), (25, 5), (12, 2)):
            party = Party(guests, size)
            plan = rounds_made(party)[:3]
            for rounds in (plan, plan + plan[:1], plan + [((0, guests - 1),)]):
                turning = chance.sample(range(guests), guests)
                self.check_renamed(party, rounds, turning, chance.sample(range(len(rounds)), len(rounds)))
