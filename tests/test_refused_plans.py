"""Point 2, its last sentence: BadRound where a plan is handed in that holds a thing that is no round."""

import itertools

from newfaces.alike import alike
from newfaces.comers import comes, leaves
from newfaces.errors import BadRound
from newfaces.hosts import hosts
from newfaces.longest import bound, longest
from newfaces.meetings import met, unmet
from newfaces.nexts import next_rounds
from newfaces.parties import Party
from newfaces.rounds import fault
from tests.plain import AskingCase

# All that a plan is handed in to, but fault and written, with what else is handed in behind it.
FUNCTIONS = ((met,), (unmet,), (next_rounds,), (bound,), (longest,), (hosts,), (comes, 0), (comes, 2), (comes, 99),
             (leaves, 0, -1), (leaves, 8, 2), (leaves, 9, 99), (alike, []))

ROUNDS = [((0, 1, 2), (3, 4, 5), (6, 7, 8)), ((0, 3, 6), (1, 4)), (), ((0, 4, 8), (1, 5, 6), (2, 3, 7)), ((5,),)]

# For nine guests at tables of three.
NO_ROUNDS = {
    "an empty table": ((),),
    "an empty table behind another": ((0, 1, 2), ()),
    "a table above the size": ((0, 1, 2, 3),),
    "a table that falls": ((1, 0),),
    "a guest twice at a table": ((0, 0),),
    "a guest at two tables": ((0, 1), (1, 2)),
    "a guest below 0": ((-1, 0),),
    "a guest not below the number of guests": ((7, 8, 9),),
    "tables that fall": ((3, 4), (0, 1)),
    "too many tables": ((0,), (1,), (2,), (3,)),
}


class RefusedPlansTest(AskingCase):

    def check(self, party, plan, number):
        told = [fault(party, [thing]) for thing in plan]
        self.assertEqual(told.index(("round", 0)), number)
        for function, *others in FUNCTIONS:
            self.check_number(number, function, party, plan, *others)
        # Of alike the one is looked at first, whatever the other is.
        for other in (ROUNDS[:2], plan, plan[1:], plan[:1], plan[::-1]):
            self.check_number(number, alike, party, plan, other)
        for one in ([], [()] * len(plan), [()] * (len(plan) + 1)):
            self.check_number(number, alike, party, one, plan)

    def check_number(self, number, function, party, *things):
        with self.subTest(function=function.__name__, things=things):
            refusal = self.check_refused(BadRound, function, party, *things)
            self.assertEqual(refusal.number, number)
            self.assertIs(type(refusal.number), int)

    def setUp(self):
        self.nine = Party(9, 3)

    def test_alone(self):
        for why, thing in NO_ROUNDS.items():
            with self.subTest(why=why):
                self.check(self.nine, [thing], 0)

    def test_at_each_place(self):
        self.assertIsNone(fault(self.nine, ROUNDS))
        for thing in NO_ROUNDS.values():
            for at in range(len(ROUNDS) + 1):
                self.check(self.nine, ROUNDS[:at] + [thing] + ROUNDS[at:], at)

    def test_the_first_of_two(self):
        things = list(NO_ROUNDS.values())
        for first, second in zip(things, things[1:] + things[:1]):
            self.check(self.nine, [first, second], 0)
            self.check(self.nine, ROUNDS[:2] + [first] + ROUNDS[2:] + [second], 2)
            self.check(self.nine, [first] + ROUNDS + [second], 0)

    def test_behind_two_who_sit_together_twice(self):
        self.check(self.nine, [ROUNDS[0], ROUNDS[0], ((2, 1),)], 2)

    def test_of_alike_the_one_goes_ahead_of_the_other(self):
        things = list(NO_ROUNDS.values())
        for first, second in zip(things, things[1:] + things[:1]):
            for at, behind in itertools.product(range(len(ROUNDS) + 1), repeat=2):
                one, other = ROUNDS[:at] + [first] + ROUNDS[at:], ROUNDS[:behind] + [second] + ROUNDS[behind:]
                self.check_number(at, alike, self.nine, one, other)
                self.check_number(at, alike, self.nine, one, ROUNDS)
                self.check_number(behind, alike, self.nine, ROUNDS, other)
        self.check_number(1, alike, self.nine, [(), ((1, 0),), ((0, 0),)], [((1, 0),)])

    def test_the_party_decides(self):
        tables = ((0, 1, 2), (3, 4, 5))
        for party in (Party(6, 3), Party(9, 3), Party(8, 4)):
            for function, *others in FUNCTIONS:
                self.ask(function, party, [tables], *others)
        for party in (Party(6, 2), Party(5, 5), Party(4, 4), Party(3, 3)):
            self.check(party, [tables], 0)

    def test_large_parties(self):
        # What is no round is refused ahead of any search, so how many guests there are does not count.
        rows = tuple(tuple(range(at, at + 8)) for at in range(0, 64, 8))
        self.check(Party(64, 8), [rows, rows[::-1], rows], 1)
        self.check(Party(64, 2), [((0, 1),), ((62, 64),)], 1)

    def test_two_who_sit_together_twice_are_no_reason(self):
        plan = [ROUNDS[0], ROUNDS[0], ((0, 1), (3, 4, 5))]
        self.assertEqual(fault(self.nine, plan), ("twice", 0, 1, 0, 1))
        for function in (met, unmet, next_rounds, bound, longest, hosts):
            self.assertEqual(self.ask(function, self.nine, plan), self.ask(function, self.nine, plan[:1]))
        self.assertEqual(self.ask(comes, self.nine, plan, 1), [0, 1])
        self.assertEqual(self.ask(leaves, self.nine, plan, 0, 1), plan[:2] + [((1,), (3, 4, 5))])
        self.assertIsNotNone(self.ask(alike, self.nine, plan, plan))
