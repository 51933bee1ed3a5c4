"""Points 1, 2 and 3, by way of fault: which things are rounds, and what is wrong with a plan first."""

import copy
import itertools
import unittest

from newfaces.parties import Party
from newfaces.rounds import fault


def all_rounds(guests, size):
    """All rounds of a party, built up from sets of guests instead of looked over."""
    tables = [table for many in range(1, size + 1) for table in itertools.combinations(range(guests), many)]
    rounds = set()
    for many in range(guests // size + 1):
        for chosen in itertools.combinations(tables, many):
            if len({guest for table in chosen for guest in table}) == sum(map(len, chosen)):
                rounds.add(tuple(sorted(chosen)))
    return rounds


def sit_together(tables, a, b):
    return any(a in table and b in table for table in tables)


def plain_fault(rounds, guests, plan):
    """What point 3 says, word by word."""
    for k, thing in enumerate(plan):
        if thing not in rounds:
            return ("round", k)
        for a in range(guests):
            for b in range(a + 1, guests):
                for j in range(k):
                    if sit_together(plan[j], a, b) and sit_together(thing, a, b):
                        return ("twice", a, b, j, k)
    return None


class FaultCase(unittest.TestCase):

    def check(self, party, plan, wanted):
        """What is told, that it is told again, and that the plan stays as it was."""
        kept = copy.deepcopy(plan)
        told = fault(party, plan)
        self.assertEqual(told, wanted)
        self.assertIn(type(told), (tuple, type(None)))
        for number in (told or ())[1:]:
            self.assertIs(type(number), int)
        self.assertEqual(plan, kept)
        self.assertEqual(fault(party, plan), wanted)
        self.assertEqual(fault(Party(party.guests(), party.size()), kept), wanted)

    def check_thing(self, party, thing, is_round):
        with self.subTest(thing=thing):
            self.check(party, [thing], None if is_round else ("round", 0))


class RoundTest(FaultCase):

    def test_full_rounds(self):
        self.check_thing(Party(4, 2), ((0, 1), (2, 3)), True)
        self.check_thing(Party(9, 3), ((0, 4, 8), (1, 5, 6), (2, 3, 7)), True)
        self.check_thing(Party(2, 2), ((0, 1),), True)
        self.check_thing(Party(8, 8), (tuple(range(8)),), True)
        self.check_thing(Party(64, 8), tuple(tuple(range(at, at + 8)) for at in range(0, 64, 8)), True)
        self.check_thing(Party(64, 2), tuple((at, at + 1) for at in range(0, 64, 2)), True)

    def test_the_round_of_no_tables(self):
        for party in (Party(2, 2), Party(9, 3), Party(64, 8)):
            self.check_thing(party, (), True)

    def test_rounds_in_which_guests_are_away(self):
        party = Party(9, 3)
        for thing in (((0,),), ((8,),), ((3, 7),), ((0, 1, 2),), ((0,), (1,), (2,)), ((0, 1, 2), (3, 4), (5, 6, 7)),
                      ((1, 8), (2,), (3, 4, 5)), ((0, 1, 2), (6, 7, 8))):
            self.check_thing(party, thing, True)

    def test_an_empty_table(self):
        party = Party(9, 3)
        for thing in (((),), ((), (0, 1, 2)), ((0, 1, 2), ()), ((0, 1), (), (2, 3)), ((), ())):
            self.check_thing(party, thing, False)

    def test_a_table_of_more_than_the_size(self):
        self.check_thing(Party(9, 3), ((0, 1, 2, 3),), False)
        self.check_thing(Party(9, 3), ((0, 1, 2), (3, 4, 5, 6), (7, 8)), False)
        self.check_thing(Party(4, 2), ((0, 1, 2),), False)
        self.check_thing(Party(64, 8), (tuple(range(9)),), False)

    def test_a_table_that_does_not_rise(self):
        party = Party(9, 3)
        for table in ((1, 0), (1, 0, 2), (0, 2, 1), (2, 1, 0), (8, 0)):
            self.check_thing(party, (table,), False)
        self.check_thing(party, ((0, 1, 2), (3, 5, 4)), False)

    def test_a_table_that_names_a_guest_twice(self):
        party = Party(9, 3)
        for table in ((0, 0), (0, 0, 1), (0, 1, 1), (0, 1, 0), (4, 4, 4)):
            self.check_thing(party, (table,), False)

    def test_a_guest_below_0(self):
        party = Party(9, 3)
        for thing in (((-1,),), ((-1, 0, 1),), ((-9,),), ((-2, -1),), ((-1, 3), (0, 1))):
            self.check_thing(party, thing, False)

    def test_a_guest_not_below_the_number_of_guests(self):
        party = Party(9, 3)
        for thing in (((9,),), ((0, 9),), ((0, 1, 9),), ((0, 1, 2), (7, 8, 9)), ((10 ** 30,),)):
            self.check_thing(party, thing, False)
        self.check_thing(Party(64, 8), ((0, 63),), True)
        self.check_thing(Party(64, 8), ((0, 64),), False)

    def test_one_guest_at_two_tables(self):
        party = Party(9, 3)
        for thing in (((0, 1), (1, 2)), ((0, 3), (2, 3)), ((0, 1), (0, 2)), ((0,), (0,)), ((0, 1, 2), (0, 1, 2)),
                      ((0, 5, 6), (1, 2), (3, 4, 6)), ((0, 1, 2), (2,), (3,))):
            self.check_thing(party, thing, False)

    def test_tables_that_do_not_rise_by_their_first_guests(self):
        party = Party(9, 3)
        for thing in (((2, 3), (0, 1)), ((1,), (0,)), ((0, 1, 2), (6, 7, 8), (3, 4, 5)), ((1, 2), (0, 8), (3, 4))):
            self.check_thing(party, thing, False)
        self.check_thing(party, ((0, 8), (1, 2), (3, 4)), True)

    def test_more_tables_than_the_number_of_guests_by_the_size(self):
        self.check_thing(Party(9, 3), ((0,), (1,), (2,)), True)
        self.check_thing(Party(9, 3), ((0,), (1,), (2,), (3,)), False)
        self.check_thing(Party(9, 3), ((0, 1), (2, 3), (4, 5), (6, 7)), False)
        self.check_thing(Party(2, 2), ((0,), (1,)), False)
        self.check_thing(Party(4, 2), ((0, 1), (2,), (3,)), False)
        self.check_thing(Party(64, 8), tuple((at,) for at in range(8)), True)
        self.check_thing(Party(64, 8), tuple((at,) for at in range(9)), False)

    def test_the_party_decides(self):
        # The size and the number of guests count, not the numbers that stand there.
        thing = ((0, 1, 2), (3, 4, 5))
        self.check_thing(Party(6, 3), thing, True)
        self.check_thing(Party(12, 3), thing, True)
        self.check_thing(Party(6, 2), thing, False)
        self.check_thing(Party(8, 4), thing, True)
        self.check_thing(Party(5, 5), thing, False)

    def test_all_small_things(self):
        party, rounds = Party(4, 2), all_rounds(4, 2)
        self.assertEqual(len(rounds), 32)
        numbers = range(-1, 5)
        tables = [table for many in range(4) for table in itertools.product(numbers, repeat=many)]
        things = [thing for many in range(3) for thing in itertools.product(tables, repeat=many)]
        for thing in things:
            self.assertEqual(fault(party, [thing]), None if thing in rounds else ("round", 0), thing)

    def test_all_rounds_of_six_at_tables_of_three(self):
        rounds = all_rounds(6, 3)
        for thing in rounds:
            self.assertIsNone(fault(Party(6, 3), [thing]), thing)
            if len(thing) > 1:
                self.assertEqual(fault(Party(6, 3), [thing[::-1]]), ("round", 0), thing)


class TwiceTest(FaultCase):

    def setUp(self):
        self.four = Party(4, 2)
        self.six = Party(6, 3)
        self.nine = Party(9, 3)

    def test_the_plan_of_no_rounds_is_good(self):
        for party in (Party(2, 2), self.nine, Party(64, 8)):
            self.check(party, [], None)

    def test_good_plans(self):
        self.check(self.four, [((0, 1), (2, 3)), ((0, 2), (1, 3)), ((0, 3), (1, 2))], None)
        nine = [((0, 1, 2), (3, 4, 5), (6, 7, 8)), ((0, 3, 6), (1, 4, 7), (2, 5, 8)),
                ((0, 4, 8), (1, 5, 6), (2, 3, 7)), ((0, 5, 7), (1, 3, 8), (2, 4, 6))]
        self.check(self.nine, nine, None)
        self.check(self.nine, nine[::-1], None)

    def test_good_plans_with_guests_away(self):
        self.check(self.nine, [((0, 1, 2),), (), ((0, 3), (1,), (2,)), ((3,),), ((3,),), (), ((1, 3),)], None)

    def test_who_sits_alone_again_is_not_together_with_anyone(self):
        self.check(self.four, [((0,), (1,)), ((0,), (1,)), ((0,), (1,))], None)

    def test_two_who_sit_together_twice(self):
        self.check(self.four, [((0, 1), (2, 3)), ((0, 2), (1, 3)), ((0, 1),)], ("twice", 0, 1, 0, 2))
        self.check(self.four, [((0, 1),), ((2, 3),), ((1, 2),), ((2, 3),)], ("twice", 2, 3, 1, 3))
        self.check(self.nine, [((0, 4, 8),), ((4, 5, 8),)], ("twice", 4, 8, 0, 1))
        self.check(self.nine, [((0, 4, 8),), ((0, 1, 8),)], ("twice", 0, 8, 0, 1))
        self.check(Party(2, 2), [((0, 1),), ((0, 1),)], ("twice", 0, 1, 0, 1))

    def test_the_least_round_goes_ahead_of_the_least_guests(self):
        self.check(self.four, [((0, 1), (2, 3)), ((2, 3),), ((0, 1),)], ("twice", 2, 3, 0, 1))
        self.check(self.four, [((0, 1),), ((2, 3),), ((2, 3),), ((0, 1),)], ("twice", 2, 3, 1, 2))

    def test_the_least_a(self):
        self.check(self.four, [((0, 1), (2, 3)), ((0, 1), (2, 3))], ("twice", 0, 1, 0, 1))
        # The pair (4, 5) stands at a table ahead of that of the lesser pair (1, 2).
        self.check(self.six, [((1, 2), (4, 5)), ((0, 4, 5), (1, 2, 3))], ("twice", 1, 2, 0, 1))

    def test_the_least_a_goes_ahead_of_the_least_b(self):
        self.check(self.six, [((0, 5), (1, 2)), ((0, 5), (1, 2))], ("twice", 0, 5, 0, 1))
        self.check(self.six, [((0, 1, 5), (2, 3, 4)), ((0, 5), (2, 3, 4))], ("twice", 0, 5, 0, 1))

    def test_the_least_b(self):
        self.check(self.six, [((0, 2, 3),), ((0, 2, 3),)], ("twice", 0, 2, 0, 1))
        self.check(self.six, [((0, 3), (1, 2)), ((0, 4), (1,)), ((0, 3, 4),)], ("twice", 0, 3, 0, 2))
        self.check(self.six, [((0, 4), (1, 2)), ((0, 3), (1,)), ((0, 3, 4),)], ("twice", 0, 3, 1, 2))

    def test_the_round_ahead_is_that_of_these_two(self):
        self.check(self.four, [((0, 1),), ((2, 3),), ((0, 1), (2, 3))], ("twice", 0, 1, 0, 2))
        self.check(self.four, [((2, 3),), ((0, 1),), ((0, 1), (2, 3))], ("twice", 0, 1, 1, 2))
        self.check(self.four, [(), ((0, 2),), (), ((1, 3),), ((0, 3),), ((0, 2),)], ("twice", 0, 2, 1, 5))

    def test_two_who_meet_three_times(self):
        self.check(self.four, [((0, 1),), ((0, 1),), ((0, 1),)], ("twice", 0, 1, 0, 1))
        self.check(self.four, [(), ((0, 1),), ((2, 3),), ((0, 1),), (), ((0, 1),)], ("twice", 0, 1, 1, 3))

    def test_two_who_meet_three_times_behind_two_others(self):
        plan = [((0, 1),), ((2, 3),), ((2, 3),), ((0, 1),), ((0, 1),)]
        self.check(self.four, plan, ("twice", 2, 3, 1, 2))

    def test_the_first_thing_that_is_no_round(self):
        bad = ((1, 0),)
        self.check(self.four, [bad], ("round", 0))
        self.check(self.four, [bad, ((0, 1),)], ("round", 0))
        self.check(self.four, [((0, 1),), bad], ("round", 1))
        self.check(self.four, [(), ((0, 1),), ((0, 2),), bad, ((0, 3),), bad], ("round", 3))

    def test_no_round_ahead_of_sitting_together_again(self):
        bad = ((0, 4),)
        self.check(self.four, [bad, ((0, 1),), ((0, 1),)], ("round", 0))
        self.check(self.four, [((0, 1),), bad, ((0, 1),)], ("round", 1))

    def test_no_round_in_which_two_sit_together_again(self):
        self.check(self.four, [((0, 1), (2, 3)), ((0, 1), (2, 4))], ("round", 1))
        self.check(self.four, [((0, 1), (2, 3)), ((2, 3), (0, 1))], ("round", 1))
        self.check(self.four, [((0, 1),), ((0, 1), (0, 1))], ("round", 1))
        self.check(self.four, [((0, 1),), ((0, 1), ())], ("round", 1))
        self.check(self.six, [((0, 1),), ((0, 1), (2,), (3,))], ("round", 1))

    def test_no_round_behind_sitting_together_again(self):
        bad = ((2, 2),)
        self.check(self.four, [((0, 1),), ((0, 1),), bad], ("twice", 0, 1, 0, 1))
        self.check(self.four, [((0, 1),), ((0, 2),), ((0, 1),), ((0, 3),), bad], ("twice", 0, 1, 0, 2))

    def test_large_parties(self):
        rows = tuple(tuple(range(at, at + 8)) for at in range(0, 64, 8))
        columns = tuple(tuple(range(at, 64, 8)) for at in range(8))
        party = Party(64, 8)
        self.check(party, [rows, columns], None)
        self.check(party, [rows, columns, ((54, 62, 63),)], ("twice", 54, 62, 1, 2))
        self.check(party, [rows, columns, ((61, 62, 63),)], ("twice", 61, 62, 0, 2))
        self.check(party, [rows, columns, columns], ("twice", 0, 8, 1, 2))

    def test_all_small_plans(self):
        rounds = all_rounds(4, 2)
        things = sorted(rounds) + [((0, 1), (1, 2)), ((2, 3), (0, 1))]
        for many in range(4):
            for plan in itertools.product(things, repeat=many):
                plan = list(plan)
                self.assertEqual(fault(self.four, plan), plain_fault(rounds, 4, plan), plan)

    def test_all_pairs_of_rounds_of_six_at_tables_of_three(self):
        rounds = all_rounds(6, 3)
        for plan in itertools.product(sorted(rounds), repeat=2):
            plan = list(plan)
            self.assertEqual(fault(self.six, plan), plain_fault(rounds, 6, plan), plan)

    def test_the_plan_may_be_changed_later(self):
        plan = [((0, 1),), ((0, 1),)]
        self.check(self.four, plan, ("twice", 0, 1, 0, 1))
        plan[1] = ((0, 2),)
        self.check(self.four, plan, None)
        plan.append(((2, 0),))
        self.check(self.four, plan, ("round", 2))
        self.assertEqual((self.four.guests(), self.four.size(), self.four.tables()), (4, 2, 2))

    def test_interface(self):
        self.assertEqual(fault.__module__, "newfaces.rounds")
