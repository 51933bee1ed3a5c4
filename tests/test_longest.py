"""Points 6, 7 and 15: how many rounds can come behind a plan, and why no more can."""

import itertools
import random

from newfaces.longest import bound, longest
from newfaces.meetings import unmet
from newfaces.nexts import next_rounds
from newfaces.parties import Party
from tests.plain import PARTIES, AskingCase, alone, pairs_of, plain_most, plain_next

SMALL = [(guests, size) for guests, size in PARTIES if guests <= 9]

# Behind it 0, 1, 2 and 3, 4, 5 may still meet among themselves, and 2 may meet 3.
BRIDGE = [((0, 3), (1, 4), (2, 5)), ((0, 4), (1, 5)), ((0, 5), (1, 3), (2, 4))]


def some_plan(chance, guests, most):
    pairs = list(itertools.combinations(range(guests), 2))
    return alone(*chance.sample(pairs, chance.randrange(min(most, len(pairs)) + 1)))


def plain_bound(party, plan):
    have_met = {frozenset(pair) for pair in pairs_of(plan)}
    counts = []
    for guest in range(party.guests()):
        others = [other for other in range(party.guests()) if other != guest]
        new = [other for other in others if frozenset((guest, other)) not in have_met]
        counts.append((len(new) // (party.size() - 1), guest))
    number, guest = min(counts)
    if number > 1 and party.guests() // party.size() < party.size():
        return (1, ("tables", party.guests() // party.size()))
    return (number, ("guest", guest))


class BoundTest(AskingCase):

    def check(self, party, plan, wanted):
        told = self.ask(bound, party, plan)
        self.assertEqual(told, wanted)
        self.check_kind((told[0],) + told[1][1:], (int,))
        self.assertIs(type(told[1]), tuple)
        self.assertEqual(told, plain_bound(party, plan))

    def test_of_no_rounds(self):
        for guests in range(2, 65, 2):
            self.check(Party(guests, 2), [], (guests - 1, ("guest", 0)))
        for size in (3, 4, 5, 6, 7, 8):
            self.check(Party(size * size, size), [], (size + 1, ("guest", 0)))
        self.check(Party(12, 3), [], (5, ("guest", 0)))
        self.check(Party(60, 5), [], (14, ("guest", 0)))
        self.check(Party(64, 4), [], (21, ("guest", 0)))

    def test_it_is_rounded_down(self):
        # Guest 0 has 7 unmet ones at tables of three, then 6, then 5.
        nine = Party(9, 3)
        self.check(nine, alone((0, 1)), (3, ("guest", 0)))
        self.check(nine, alone((0, 1), (0, 2)), (3, ("guest", 0)))
        self.check(nine, alone((0, 1), (0, 2), (0, 3)), (2, ("guest", 0)))

    def test_the_least_guest_of_the_least_number(self):
        nine = Party(9, 3)
        self.check(nine, alone((5, 7)), (3, ("guest", 5)))
        self.check(nine, [((4, 6, 8),)], (3, ("guest", 4)))
        self.check(nine, alone((7, 8), (6, 8), (5, 8)), (2, ("guest", 8)))
        self.check(nine, alone((7, 8), (6, 8), (5, 8), (2, 4), (2, 7), (2, 6)), (2, ("guest", 2)))
        # Guest 3 has fewer unmet ones than guest 1, but the same number by size - 1.
        self.check(nine, alone((1, 3), (3, 5)), (3, ("guest", 1)))
        self.check(Party(4, 2), alone((2, 3)), (2, ("guest", 2)))
        self.check(Party(4, 2), alone((1, 2), (1, 3)), (1, ("guest", 1)))

    def test_a_guest_who_has_met_all(self):
        self.check(Party(4, 2), alone((0, 2), (1, 2), (2, 3)), (0, ("guest", 2)))
        self.check(Party(4, 2), [((0, 1), (2, 3)), ((0, 2), (1, 3)), ((0, 3), (1, 2))], (0, ("guest", 0)))
        self.check(Party(64, 2), alone(*[(at, 63) for at in range(63)]), (0, ("guest", 63)))
        plan = [((1, 2, 5), (3, 4, 7)), ((0, 5, 6), (3, 8)), ((3, 5), (4, 8)), ((4, 5),), ((5, 7, 8),)]
        self.check(Party(9, 3), plan, (0, ("guest", 5)))

    def test_fewer_unmet_ones_than_a_table_has_others(self):
        # One unmet guest is not enough for a table of three.
        plan = [((0, 1, 2),), ((0, 3, 4),), ((0, 5, 6),), ((0, 7),)]
        self.assertEqual(unmet(Party(9, 3), plan)[0], [8])
        self.check(Party(9, 3), plan, (0, ("guest", 0)))

    def test_fewer_tables_than_the_size(self):
        self.check(Party(6, 3), [], (1, ("tables", 2)))
        self.check(Party(8, 4), [], (1, ("tables", 2)))
        self.check(Party(12, 4), [], (1, ("tables", 3)))
        self.check(Party(20, 5), [], (1, ("tables", 4)))
        self.check(Party(56, 8), [], (1, ("tables", 7)))
        self.check(Party(12, 4), [((0, 1, 2, 3), (4, 5, 6, 7), (8, 9, 10, 11))], (1, ("tables", 3)))
        self.check(Party(6, 3), alone((0, 1)), (1, ("tables", 2)))

    def test_fewer_tables_than_the_size_but_a_number_of_1(self):
        self.check(Party(6, 3), alone((1, 4), (1, 5)), (1, ("guest", 1)))
        self.check(Party(6, 3), [((0, 1, 2), (3, 4, 5))], (1, ("guest", 0)))
        for guests in range(2, 9):
            self.check(Party(guests, guests), [], (1, ("guest", 0)))
        self.check(Party(10, 5), [((5, 6, 7, 8, 9),)], (1, ("guest", 5)))

    def test_fewer_tables_than_the_size_but_a_number_of_0(self):
        self.check(Party(2, 2), [((0, 1),)], (0, ("guest", 0)))
        self.check(Party(8, 8), alone((3, 6)), (0, ("guest", 3)))
        self.check(Party(6, 3), alone((1, 4), (1, 5), (1, 3), (1, 2)), (0, ("guest", 1)))

    def test_as_many_tables_as_the_size_or_more(self):
        self.check(Party(4, 2), [], (3, ("guest", 0)))
        self.check(Party(9, 3), [], (4, ("guest", 0)))
        self.check(Party(16, 4), [], (5, ("guest", 0)))
        self.check(Party(64, 8), [], (9, ("guest", 0)))
        self.check(Party(20, 4), [], (6, ("guest", 0)))

    def test_a_plan_that_is_not_good(self):
        self.check(Party(4, 2), alone((2, 3), (2, 3), (2, 3)), (2, ("guest", 2)))

    def test_plans_of_all_parties(self):
        chance = random.Random(6)
        for guests, size in PARTIES:
            for number in range(4):
                plan = some_plan(chance, guests, 3 * guests)
                with self.subTest(guests=guests, size=size, plan=plan):
                    self.check(Party(guests, size), plan, plain_bound(Party(guests, size), plan))


class LongestTest(AskingCase):

    def check(self, party, plan):
        """All that point 7 promises, held against a search that tries all."""
        rounds, reason = told = self.ask(longest, party, plan)
        self.assertIs(type(told), tuple)
        self.assertIs(type(reason), tuple)
        self.check_rounds(rounds)
        for at, tables in enumerate(rounds):
            self.assertIn(tables, next_rounds(party, plan + rounds[:at]))
        guests, size = party.guests(), party.size()
        self.assertEqual(len(rounds), plain_most(guests, size, plan))
        number, why = bound(party, plan)
        if len(rounds) == number:
            self.assertEqual(reason, why)
        else:
            self.assertLess(len(rounds), number)
            self.assertEqual(reason[0], "cases")
            self.check_cases(party, plan, reason[1])
            self.assertEqual(len(rounds), max([more for tables, more in reason[1]], default=0))
        return told

    def check_cases(self, party, plan, cases):
        guests, size = party.guests(), party.size()
        self.assertIs(type(cases), list)
        for case in cases:
            self.assertIs(type(case), tuple)
            self.check_kind(case[0], ((int,),))
            self.assertIs(type(case[1]), int)
        wanted = [(tables, 1 + plain_most(guests, size, plan + [tables])) for tables in plain_next(guests, size, plan)]
        self.assertEqual(cases, wanted)
        self.assertEqual([tables for tables, more in cases], next_rounds(party, plan))

    def test_as_many_as_bound_tells_of_no_rounds(self):
        for guests, size in SMALL:
            with self.subTest(guests=guests, size=size):
                rounds, reason = self.check(Party(guests, size), [])
                self.assertEqual((len(rounds), reason), bound(Party(guests, size), []))

    def test_as_many_as_bound_tells(self):
        plan = [((0, 1, 2), (3, 4, 5), (6, 7, 8))]
        rounds, reason = self.check(Party(9, 3), plan)
        self.assertEqual((len(rounds), reason), (3, ("guest", 0)))
        rounds, reason = self.check(Party(9, 3), [((4, 8),)])
        self.assertEqual((len(rounds), reason), (3, ("guest", 4)))
        rounds, reason = self.check(Party(8, 2), [((0, 1), (2, 3), (4, 5)), ((0, 2), (1, 3)), ((4, 6),)])
        self.assertEqual((len(rounds), reason), (5, ("guest", 0)))
        self.assertEqual(longest(Party(4, 2), [((0, 1), (2, 3)), ((0, 2),)]), ([((0, 3), (1, 2))], ("guest", 0)))

    def test_too_few_tables_for_more(self):
        rounds, reason = self.check(Party(6, 3), [])
        self.assertEqual((len(rounds), reason), (1, ("tables", 2)))
        rounds, reason = self.check(Party(8, 4), [((0, 1), (5, 6)), ((3, 7),)])
        self.assertEqual((len(rounds), reason), (1, ("tables", 2)))
        rounds, reason = self.check(Party(8, 4), alone((0, 1), (0, 2), (3, 7)))
        self.assertEqual((len(rounds), reason), (1, ("guest", 0)))

    def test_none_where_bound_tells_none(self):
        self.assertEqual(self.check(Party(2, 2), [((0, 1),)]), ([], ("guest", 0)))
        self.assertEqual(self.check(Party(4, 2), alone((1, 3), (2, 3), (0, 3))), ([], ("guest", 3)))
        self.assertEqual(self.check(Party(8, 8), alone((3, 6))), ([], ("guest", 3)))

    def test_none_where_bound_tells_some(self):
        self.assertEqual(self.check(Party(6, 3), [((0, 1, 2), (3, 4, 5))]), ([], ("cases", [])))
        plan = alone(*itertools.product((0, 1, 2), (3, 4, 5)))
        self.assertEqual(bound(Party(6, 2), plan), (2, ("guest", 0)))
        self.assertEqual(self.check(Party(6, 2), plan), ([], ("cases", [])))

    def test_one_round_where_bound_tells_two(self):
        self.assertEqual(bound(Party(6, 2), BRIDGE), (2, ("guest", 0)))
        tables = ((0, 1), (2, 3), (4, 5))
        self.assertEqual(self.check(Party(6, 2), BRIDGE), ([tables], ("cases", [(tables, 1)])))

    def test_cases_of_unlike_numbers(self):
        plan = alone((1, 3), (3, 4), (2, 4), (1, 2))
        rounds, (kind, cases) = self.check(Party(6, 2), plan)
        self.assertEqual((len(rounds), kind, bound(Party(6, 2), plan)[0]), (2, "cases", 3))
        self.assertEqual({more for tables, more in cases}, {1, 2})

    def test_cases_of_eight_guests(self):
        # All of 0 to 5 must meet all whom they can, but 6 and 7 would have to leave out more than each other.
        plan = alone((0, 1), (1, 2), (2, 3), (3, 4), (4, 5), (0, 5))
        rounds, (kind, cases) = self.check(Party(8, 2), plan)
        self.assertEqual((len(rounds), kind, bound(Party(8, 2), plan)[0]), (4, "cases", 5))
        self.assertEqual(len(cases), 40)

    def test_cases_of_nine_guests(self):
        rounds, (kind, cases) = self.check(Party(9, 3), alone((1, 6), (6, 7), (0, 7), (0, 1), (2, 8)))
        self.assertEqual((len(rounds), kind, len(cases)), (2, "cases", 62))
        self.assertEqual({more for tables, more in cases}, {1, 2})

    def test_a_plan_that_is_not_good(self):
        self.check(Party(6, 2), BRIDGE + BRIDGE[:2])
        self.assertEqual(longest(Party(6, 2), BRIDGE + BRIDGE[:2]), longest(Party(6, 2), BRIDGE))

    def test_rounds_in_which_guests_are_away(self):
        self.check(Party(9, 3), [((0, 1), (2, 5, 8)), ((3,), (4, 7)), ()])
        self.check(Party(6, 2), [((0,), (1, 4), (2, 3)), ()])

    def test_plans_of_all_small_parties(self):
        chance, kinds = random.Random(7), {}
        for guests, size in SMALL:
            for number in range(25):
                plan = some_plan(chance, guests, 13)
                with self.subTest(guests=guests, size=size, plan=plan):
                    told = self.check(Party(guests, size), plan)
                    kinds[told[1][0]] = kinds.get(told[1][0], 0) + 1
        # The plans are worth something only if each reason is among those told.
        self.assertEqual(sorted(kinds), ["cases", "guest", "tables"])
