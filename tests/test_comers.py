"""Points 12 and 15: seats for one more who comes late, and a plan when a guest leaves."""

import itertools
import random

from newfaces.comers import comes, leaves
from newfaces.hosts import with_hosts
from newfaces.parties import Party
from newfaces.rounds import fault
from newfaces.turnings import rounds_made
from tests.plain import PARTIES, AskingCase, alone, some_full_round, some_round

SMALL = [(guests, size) for guests, size in PARTIES if guests <= 9]


def plain_comes(plan, first):
    rounds = plan[first:]
    for seats in itertools.product(*[range(len(tables)) for tables in rounds]):
        faces = [guest for tables, seat in zip(rounds, seats) for guest in tables[seat]]
        if len(set(faces)) == len(faces):
            return list(seats)
    return None


def plain_leaves(plan, guest, last):
    left = []
    for number, tables in enumerate(plan):
        stay = [set(table) - {guest} if number > last else set(table) for table in tables]
        left.append(tuple(tuple(sorted(table)) for table in sorted(stay, key=lambda table: min(table, default=0))
                          if table))
    return left


class ComesTest(AskingCase):

    def check(self, party, plan, first, wanted):
        told = self.ask(comes, party, plan, first)
        self.assertEqual(told, wanted)
        if told is not None:
            self.check_kind(told, [int])
            self.assertEqual(len(told), len(plan) - first)
        self.assertEqual(told, plain_comes(plan, first))

    def test_from_the_first_round_a_middle_one_the_last_one_and_behind_all(self):
        plan = [((0, 1), (2, 3)), ((0, 2), (1, 3)), ((0, 3), (1, 2))]
        self.check(Party(4, 2), plan, 0, None)
        self.check(Party(4, 2), plan, 1, None)
        self.check(Party(4, 2), plan, 2, [0])
        self.check(Party(4, 2), plan, 3, [])

    def test_seats_beside_the_hosts(self):
        # The one who comes late meets one host a round.
        plan = with_hosts(3, 2)
        self.assertEqual(plan[0], ((0, 3), (1, 4), (2, 5)))
        self.check(Party(6, 2), plan, 0, [0, 2, 1])
        self.check(Party(6, 2), plan, 1, [0, 2])
        self.check(Party(6, 2), plan, 2, [0])
        self.check(Party(6, 2), plan, 3, [])

    def test_the_plan_of_no_rounds(self):
        for party in (Party(2, 2), Party(9, 3), Party(64, 8)):
            self.check(party, [], 0, [])

    def test_rounds_ahead_do_not_count(self):
        plan = [((0, 1),), (), ((0, 1),), ((0,), (2,))]
        self.check(Party(4, 2), plan, 0, None)
        self.check(Party(4, 2), plan, 1, None)
        self.check(Party(4, 2), plan, 2, [0, 1])
        self.check(Party(4, 2), plan, 3, [0])

    def test_full_tables_and_others(self):
        self.check(Party(6, 3), [((0, 1, 2), (3,)), ((3, 4),)], 0, [0, 0])
        self.check(Party(6, 3), [((0, 1, 2), (3, 4)), ((0,), (1, 2, 3))], 0, [1, 0])
        self.check(Party(8, 8), [(tuple(range(8)),)], 0, [0])

    def test_numbers_are_those_of_the_tables_not_of_guests(self):
        self.check(Party(9, 3), [((2, 5), (3,), (7, 8)), ((2,), (3, 5))], 0, [1, 0])
        self.check(Party(9, 3), [((4,), (6,), (8,)), ((4, 6),)], 0, [2, 0])

    def test_the_first_as_lists_ascend(self):
        # The first table of the first round goes ahead of the first one of the second.
        self.check(Party(4, 2), [((0, 1), (2, 3)), ((0, 2), (3,))], 0, [0, 1])
        self.check(Party(6, 3), [((0,), (1,)), ((0,), (1,))], 0, [0, 1])
        self.check(Party(9, 3), [((0,), (1,), (2,))] * 3, 0, [0, 1, 2])
        # At table 0 of the first round the one who comes would not find a seat in the last.
        self.check(Party(9, 3), [((0,), (1,), (2,)), ((3,), (4,)), ((0, 3),)], 0, [1, 1, 0])
        self.check(Party(9, 3), [((0,), (1,), (2,)), ((1,), (4,)), ((0, 4),)], 0, [2, 0, 0])

    def test_two_tables_that_share_a_guest(self):
        # Both rounds hold the same two tables, and the one who comes has to change.
        self.check(Party(4, 2), [((0, 1), (2, 3)), ((0, 1), (2, 3))], 0, [0, 1])
        self.check(Party(4, 2), [((0, 1), (2, 3))] * 3, 0, None)
        # Each table of the one round shares a guest with each of the other.
        self.check(Party(4, 2), [((0, 1), (2, 3)), ((0, 2), (1, 3))], 0, None)
        self.check(Party(4, 2), [((0, 1),), ((0, 2), (1, 3)), ((2, 3),)], 0, None)
        # Any of a table, not just its first guest, is met again.
        self.check(Party(6, 3), [((0, 1, 2),), ((2, 3), (4,))], 0, [0, 1])
        self.check(Party(6, 3), [((0, 1, 2),), ((3, 4, 5),), ((1,),)], 0, None)
        # Rounds far apart count as well as those beside each other.
        self.check(Party(9, 3), [((0,),), ((1,),), ((2,),), ((0, 3), (4,))], 0, [0, 0, 0, 1])

    def test_rounds_of_no_tables(self):
        self.check(Party(4, 2), [()], 0, None)
        self.check(Party(4, 2), [()], 1, [])
        self.check(Party(4, 2), [(), ((0, 1), (2, 3))], 0, None)
        self.check(Party(4, 2), [(), ((0, 1), (2, 3))], 1, [0])
        self.check(Party(4, 2), [((0, 1), (2, 3)), ()], 0, None)
        self.check(Party(4, 2), [((0, 1), (2, 3)), ()], 1, None)

    def test_more_rounds_than_guests(self):
        party = Party(3, 3)
        self.check(party, [((0,),), ((1,),), ((2,),)], 0, [0, 0, 0])
        self.check(party, [((0,),), ((1,),), ((2,),), ((0,),)], 0, None)
        self.check(party, alone(*[(0,), (1,), (2,)] * 400), 0, None)
        self.check(party, alone(*[(0,), (1,), (2,)] * 400), 1197, [0, 0, 0])

    def test_somewhat_beyond_the_rounds(self):
        plan = [((0, 1), (2, 3)), ((0, 2), (1, 3))]
        self.assertEqual(self.ask(comes, Party(4, 2), plan, 3), [])
        self.assertEqual(self.ask(comes, Party(4, 2), plan, -1), comes(Party(4, 2), plan, 0))

    def test_plans_of_all_small_parties(self):
        chance, found = random.Random(12), []
        for guests, size in SMALL:
            for number in range(50):
                some = chance.choice((some_round, some_full_round))
                plan = [some(chance, guests, size) for at in range(chance.randrange(6))]
                for first in range(len(plan) + 1):
                    with self.subTest(guests=guests, size=size, plan=plan, first=first):
                        self.check(Party(guests, size), plan, first, plain_comes(plan, first))
                        found.append(comes(Party(guests, size), plan, first) is None)
        self.assertGreater(found.count(True), 500)
        self.assertGreater(found.count(False), 500)


class LeavesTest(AskingCase):

    def check(self, party, plan, guest, last, wanted):
        told = self.ask(leaves, party, plan, guest, last)
        self.assertEqual(told, wanted)
        self.check_rounds(told)
        self.assertEqual(told, plain_leaves(plan, guest, last))
        self.assertNotEqual((fault(party, told) or ("none",))[0], "round")
        self.assertIsNot(leaves(party, plan, guest, last), plan)

    def test_behind_no_round_a_middle_one_the_last_one_and_beyond(self):
        plan = [((0, 1), (2, 3)), ((0, 2), (1, 3)), ((0, 3), (1, 2))]
        self.check(Party(4, 2), plan, 3, -1, [((0, 1), (2,)), ((0, 2), (1,)), ((0,), (1, 2))])
        self.check(Party(4, 2), plan, 3, 0, [((0, 1), (2, 3)), ((0, 2), (1,)), ((0,), (1, 2))])
        self.check(Party(4, 2), plan, 3, 1, [((0, 1), (2, 3)), ((0, 2), (1, 3)), ((0,), (1, 2))])
        self.check(Party(4, 2), plan, 3, 2, plan)
        self.check(Party(4, 2), plan, 3, 3, plan)
        self.check(Party(4, 2), plan, 3, 10 ** 30, plan)

    def test_the_plan_of_no_rounds(self):
        for last in (-1, 0, 5):
            self.check(Party(4, 2), [], 0, last, [])

    def test_the_first_guest_of_a_table(self):
        # The tables rise again by the first of those who are left.
        plan = [((0, 5), (1, 4), (2, 3))]
        self.check(Party(6, 2), plan, 0, -1, [((1, 4), (2, 3), (5,))])
        self.check(Party(6, 2), plan, 1, -1, [((0, 5), (2, 3), (4,))])
        self.check(Party(6, 2), plan, 2, -1, [((0, 5), (1, 4), (3,))])
        self.check(Party(9, 3), [((0, 7, 8), (1, 2, 3), (4, 5, 6))], 0, -1, [((1, 2, 3), (4, 5, 6), (7, 8))])
        self.check(Party(9, 3), [((0, 3, 8), (1, 2, 5), (4, 6, 7))], 0, -1, [((1, 2, 5), (3, 8), (4, 6, 7))])

    def test_another_guest_of_a_table(self):
        self.check(Party(9, 3), [((0, 7, 8), (1, 2, 3))], 7, -1, [((0, 8), (1, 2, 3))])
        self.check(Party(9, 3), [((0, 7, 8), (1, 2, 3))], 3, -1, [((0, 7, 8), (1, 2))])

    def test_a_guest_alone_at_a_table(self):
        self.check(Party(4, 2), [((0,), (1, 2)), ((1,),)], 0, -1, [((1, 2),), ((1,),)])
        self.check(Party(4, 2), [((0,), (1, 2)), ((1,),)], 1, -1, [((0,), (2,)), ()])
        self.check(Party(4, 2), [((0,), (1, 2)), ((1,),)], 1, 0, [((0,), (1, 2)), ()])
        self.check(Party(9, 3), [((0, 1), (3,), (5, 8))], 3, -1, [((0, 1), (5, 8))])

    def test_a_guest_who_sits_nowhere(self):
        plan = [((0, 1),), (), ((1, 2),)]
        self.check(Party(4, 2), plan, 3, -1, plan)
        self.check(Party(4, 2), plan, 0, 0, plan)
        self.check(Party(4, 2), [()], 0, -1, [()])

    def test_numbers_of_guests_beyond_the_party(self):
        plan = [((0, 1), (2, 3))]
        for guest in (-1, 4, 64):
            self.check(Party(4, 2), plan, guest, -1, plan)

    def test_a_number_below_that_of_all_rounds(self):
        self.check(Party(4, 2), [((0, 1), (2, 3))], 0, -2, [((1,), (2, 3))])

    def test_all_leave_one_behind_another(self):
        plan = rounds_made(Party(9, 3))
        for guest in range(9):
            plan = leaves(Party(9, 3), plan, guest, guest // 3)
        self.assertEqual(plan[0], rounds_made(Party(9, 3))[0])
        self.assertEqual([sorted(guest for table in tables for guest in table) for tables in plan],
                         [list(range(9)), [3, 4, 5, 6, 7, 8], [6, 7, 8], []])

    def test_a_plan_that_is_not_good(self):
        self.check(Party(4, 2), [((0, 1),), ((0, 1),)], 1, 0, [((0, 1),), ((0,),)])

    def test_a_party_of_64_guests(self):
        rows = tuple(tuple(range(at, at + 8)) for at in range(0, 64, 8))
        columns = tuple(tuple(range(at, 64, 8)) for at in range(8))
        wanted = columns[1:7] + ((7, 15, 23, 31, 39, 47, 55),)
        self.check(Party(64, 8), [rows, columns], 63, 0, [rows, (columns[0],) + wanted])
        behind = columns[1:] + ((8, 16, 24, 32, 40, 48, 56),)
        self.check(Party(64, 8), [rows, columns], 0, 0, [rows, behind])
        plan = rounds_made(Party(64, 2))
        for guest, last in ((0, -1), (31, 30), (63, 61)):
            self.check(Party(64, 2), plan, guest, last, plain_leaves(plan, guest, last))

    def test_plans_of_all_parties(self):
        chance = random.Random(13)
        for guests, size in PARTIES:
            plan = [some_round(chance, guests, size) for at in range(4)]
            for last in range(-1, 5):
                guest = chance.randrange(guests)
                with self.subTest(guests=guests, size=size, plan=plan, guest=guest, last=last):
                    self.check(Party(guests, size), plan, guest, last, plain_leaves(plan, guest, last))
