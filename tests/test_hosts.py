"""Points 10, 11 and 15: plans made with hosts, and the hosts of a plan."""

import itertools
import random

from newfaces.errors import BadParty
from newfaces.hosts import hosts, with_hosts
from newfaces.parties import Party
from newfaces.rounds import fault
from newfaces.turnings import rounds_made
from tests.plain import PARTIES, AskingCase, alone, plain_turned, some_full_round, some_round

SMALL = [(guests, size) for guests, size in PARTIES if guests <= 9]

HOSTED = [(tables, size) for tables in (2, 3, 5, 7) for size in range(2, tables + 1)]


def plain_hosts(guests, size, plan):
    for chosen in itertools.combinations(range(guests), guests // size):
        if all(len(set(chosen) & set(table)) == 1 for tables in plan for table in tables):
            return list(chosen)
    return None


class WithHostsTest(AskingCase):

    def ask_numbers(self, tables, size):
        """What is told, which may be changed, and is told again."""
        return self.ask(lambda party, tables, size: with_hosts(tables, size), Party(2, 2), tables, size)

    def check(self, tables, size):
        plan, guests = self.ask_numbers(tables, size), tables * size
        self.check_rounds(plan)
        self.assertEqual(len(plan), tables)
        self.assertIsNone(fault(Party(guests, size), plan))
        for seated in plan:
            self.assertEqual([len(table) for table in seated], [size] * tables)
            self.assertEqual(sorted(guest for table in seated for guest in table), list(range(guests)))
            for host, table in enumerate(seated):
                self.assertIn(host, table)
        for guest in range(tables, guests):
            at = [host for seated in plan for host in range(tables) if guest in seated[host]]
            self.assertEqual(sorted(at), list(range(tables)))

    def check_none(self, tables, size):
        with self.subTest(tables=tables, size=size):
            self.check_refused(BadParty, with_hosts, tables, size)

    def test_all_that_there_are(self):
        self.assertEqual(len(HOSTED), 13)
        for tables, size in HOSTED:
            with self.subTest(tables=tables, size=size):
                self.check(tables, size)

    def test_the_least(self):
        self.assertEqual(with_hosts(2, 2), [((0, 2), (1, 3)), ((0, 3), (1, 2))])

    def test_other_counts_of_tables(self):
        for tables in (0, 1, 4, 6, 8, 9, 10, 11, 13, 64, 10 ** 30, -1, -2, -3, -5, -7, -(10 ** 30)):
            for size in (0, 1, 2, 3, 4, 5, 7, 8, 9, -2, tables, tables - 1, tables + 1):
                self.check_none(tables, size)

    def test_other_sizes(self):
        for tables in (2, 3, 5, 7):
            for size in (1, 0, tables + 1, tables + 2, 8, 9, 10 ** 30, -1, -2, -tables, -(10 ** 30)):
                self.check_none(tables, size)

    def test_all_numbers_around_the_bounds(self):
        for tables, size in itertools.product(range(-9, 15), repeat=2):
            if (tables, size) in HOSTED:
                self.assertEqual(len(with_hosts(tables, size)), tables)
            else:
                self.check_none(tables, size)


class HostsTest(AskingCase):

    def check(self, party, plan, wanted):
        told = self.ask(hosts, party, plan)
        self.assertEqual(told, wanted)
        if told is not None:
            self.check_kind(told, [int])
        self.assertEqual(told, plain_hosts(party.guests(), party.size(), plan))
        return told

    def check_plain(self, party, plan):
        return self.check(party, plan, plain_hosts(party.guests(), party.size(), plan))

    def test_the_plan_of_no_rounds(self):
        for guests, size in SMALL:
            self.check(Party(guests, size), [], list(range(guests // size)))

    def test_plans_with_hosts(self):
        for tables, size in ((2, 2), (3, 2), (3, 3)):
            self.check(Party(tables * size, size), with_hosts(tables, size), list(range(tables)))

    def test_plans_with_hosts_renamed(self):
        chance = random.Random(10)
        for tables, size in ((2, 2), (3, 2), (3, 3)):
            guests = tables * size
            for number in range(20):
                turning = chance.sample(range(guests), guests)
                plan = [plain_turned(seated, turning) for seated in with_hosts(tables, size)]
                with self.subTest(plan=plan):
                    self.assertIsNotNone(self.check_plain(Party(guests, size), plan))

    def test_the_first_as_lists_ascend(self):
        self.check(Party(4, 2), [((0, 1), (2, 3))], [0, 2])
        self.check(Party(4, 2), [((0, 1), (2, 3)), ((0, 2), (1, 3))], [0, 3])
        self.check(Party(4, 2), [((1, 2),), ((0, 3),)], [0, 1])
        # There are none with 0, which has met both 3 and 4.
        self.check(Party(9, 3), [((0, 1, 2), (3, 4)), ((0, 3, 5),), ((0, 4, 6),)], [1, 3, 6])
        self.check(Party(6, 2), [((0, 1), (2, 5)), ((0, 2), (1, 5)), ((3, 4),)], [0, 3, 5])

    def test_the_first_guests_are_none(self):
        self.check(Party(6, 3), [((2, 3),), ((4, 5),)], [2, 4])
        self.check(Party(6, 3), [((4,), (5,))], [4, 5])
        self.check(Party(8, 4), [((1, 2), (6, 7))], [1, 6])
        self.check(Party(2, 2), [((1,),)], [1])

    def test_none(self):
        for plan in (rounds_made(Party(4, 2)), alone((0, 1), (1, 2), (0, 2))):
            self.check(Party(4, 2), plan, None)
        self.check(Party(9, 3), rounds_made(Party(9, 3)), None)
        # One has to sit at each of three tables, and there are but two.
        self.check(Party(6, 3), alone((0, 1), (2, 3), (4, 5)), None)
        self.check(Party(2, 2), [((0,),), ((1,),)], None)

    def test_all_tables_of_a_round_alone(self):
        self.check(Party(4, 2), [((0,), (1,)), ((0,), (2,))], None)
        self.check(Party(4, 2), [((0,), (1,)), ((0,), (1,))], [0, 1])

    def test_parties_of_one_table(self):
        for guests in range(2, 9):
            everyone = (tuple(range(guests)),)
            self.check(Party(guests, guests), [everyone, everyone], [0])
            self.check(Party(guests, guests), [everyone, ((guests - 1,),)], [guests - 1])

    def test_fewer_tables_than_the_party_has(self):
        # The one host who sits there is enough, and the others may sit nowhere, but not at that table.
        self.check(Party(6, 2), [((0, 1),)], [0, 2, 3])
        self.check(Party(6, 2), [((0, 1),), ((2, 3),)], [0, 2, 4])
        self.check(Party(9, 3), [((0, 1, 2),), ((0, 3, 4),), ((1, 3, 5),)], [0, 5, 6])
        self.check(Party(6, 3), [((0, 1, 2),), ((3, 4, 5),), ((0, 3),)], [0, 4])

    def test_a_round_of_no_tables(self):
        self.check(Party(6, 2), [()], [0, 1, 2])
        self.check(Party(4, 2), [(), ((0, 1), (2, 3)), ()], [0, 2])
        self.check(Party(4, 2), rounds_made(Party(4, 2)) + [()], None)

    def test_a_plan_that_is_not_good(self):
        plan = [((0, 1), (2, 3)), ((0, 1), (2, 3)), ((0, 1),)]
        self.check(Party(4, 2), plan, [0, 2])

    def test_plans_of_all_small_parties(self):
        chance, found = random.Random(11), []
        for guests, size in SMALL:
            for number in range(60):
                some = chance.choice((some_round, some_full_round))
                plan = [some(chance, guests, size) for at in range(chance.randrange(5))]
                with self.subTest(guests=guests, size=size, plan=plan):
                    found.append(self.check_plain(Party(guests, size), plan) is None)
        # The plans are worth something only if many have hosts and many have none.
        self.assertGreater(found.count(True), 100)
        self.assertGreater(found.count(False), 100)
