"""Points 8 and 9: rounds turned, how long they turn, and plans made by turnings."""

import itertools
import math
import random

from newfaces.errors import BadRound, BadTurning
from newfaces.longest import bound
from newfaces.parties import Party
from newfaces.rounds import fault
from newfaces.turnings import made, rounds_made, turned, turns
from tests.plain import PARTIES, AskingCase, pairs_of, plain_turned, some_round

# For six guests.
NO_TURNINGS = {
    "none at all": [],
    "too short": [0, 1, 2, 3, 4],
    "too long": [0, 1, 2, 3, 4, 5, 6],
    "too long, a guest twice": [0, 1, 2, 3, 4, 5, 5],
    "a guest twice": [0, 1, 2, 3, 4, 4],
    "one guest only": [0, 0, 0, 0, 0, 0],
    "below 0": [0, 1, 2, 3, 4, -1],
    "below 0 where Python counts from the end": [-6, -5, -4, -3, -2, -1],
    "not below the number of guests": [0, 1, 2, 3, 4, 6],
    "numbered from 1": [1, 2, 3, 4, 5, 6],
    "far above": [0, 1, 2, 3, 4, 10 ** 30],
}

# For six guests at tables of three.
NO_ROUNDS = (((1, 0),), ((0, 6),), ((-1, 0),), ((0, 1, 2, 3),), ((),), ((0, 1), (1, 2)), ((3,), (0,)),
             ((0,), (1,), (2,)))

TABLES_OF_TWO = [(guests, 2) for guests in range(2, 65, 2)]
SQUARES = [(9, 3), (25, 5), (49, 7)]


def plain_turns(tables, turning):
    if not pairs_of([tables]):
        return 0
    rounds = [tables]
    while True:
        tables = plain_turned(tables, turning)
        if set(pairs_of([tables])) & set(pairs_of(rounds)):
            return len(rounds)
        rounds.append(tables)


class TurnedTest(AskingCase):

    def setUp(self):
        self.six = Party(6, 3)

    def check(self, party, tables, turning, wanted):
        told = self.ask(turned, party, tables, turning)
        self.assertEqual(told, wanted)
        self.check_kind(told, ((int,),))
        self.assertIsNone(fault(party, [told]))

    def test_the_guest_is_replaced_by_the_thing_at_its_number(self):
        # Not by the place at which it stands in the turning.
        self.check(self.six, ((0, 1), (2,)), [1, 2, 0, 3, 4, 5], ((0,), (1, 2)))
        self.check(self.six, ((0, 3), (1,)), [4, 0, 1, 2, 3, 5], ((0,), (2, 4)))
        self.check(Party(4, 2), ((0, 1), (2, 3)), [1, 2, 3, 0], ((0, 3), (1, 2)))

    def test_tables_rise_again(self):
        self.check(self.six, ((0, 1, 2), (3, 4, 5)), [2, 1, 0, 5, 3, 4], ((0, 1, 2), (3, 4, 5)))
        self.check(self.six, ((0, 1, 2),), [5, 3, 4, 0, 1, 2], ((3, 4, 5),))

    def test_rounds_rise_again(self):
        self.check(self.six, ((0, 1, 2), (3, 4, 5)), [5, 4, 3, 2, 1, 0], ((0, 1, 2), (3, 4, 5)))
        self.check(self.six, ((0, 5), (2, 3)), [4, 5, 0, 1, 2, 3], ((0, 1), (3, 4)))
        self.check(Party(6, 2), ((0, 3), (1, 5), (2, 4)), [5, 3, 1, 0, 2, 4], ((0, 5), (1, 2), (3, 4)))

    def test_guests_away(self):
        self.check(self.six, ((0,),), [5, 0, 1, 2, 3, 4], ((5,),))
        self.check(self.six, ((1, 4), (3,)), [5, 4, 3, 0, 1, 2], ((0,), (1, 4)))
        self.check(Party(64, 8), ((0, 63), (5,)), list(range(1, 64)) + [0], ((0, 1), (6,)))

    def test_the_round_of_no_tables(self):
        self.check(self.six, (), [5, 4, 3, 2, 1, 0], ())
        self.check(Party(2, 2), (), [0, 1], ())

    def test_the_turning_that_changes_nothing(self):
        for tables in ((), ((0, 4, 5), (1, 2, 3)), ((2, 4),), ((1,), (3, 5))):
            self.check(self.six, tables, [0, 1, 2, 3, 4, 5], tables)

    def test_all_turnings_of_four_guests(self):
        rounds = [(), ((2,),), ((0,), (3,)), ((1, 3),), ((0, 2), (1,)), ((0, 2), (1, 3)), ((0, 3), (1, 2))]
        for tables, turning in itertools.product(rounds, itertools.permutations(range(4))):
            self.check(Party(4, 2), tables, list(turning), plain_turned(tables, turning))

    def test_rounds_of_all_parties(self):
        chance = random.Random(8)
        for guests, size in PARTIES:
            tables, turning = some_round(chance, guests, size), chance.sample(range(guests), guests)
            with self.subTest(guests=guests, tables=tables, turning=turning):
                self.check(Party(guests, size), tables, turning, plain_turned(tables, turning))

    def test_back_again(self):
        tables, turning = ((0, 2, 4), (1, 5)), [3, 5, 0, 1, 4, 2]
        back = [turning.index(guest) for guest in range(6)]
        self.assertEqual(turned(self.six, turned(self.six, tables, turning), back), tables)


class TurnsTest(AskingCase):

    def setUp(self):
        self.six = Party(6, 3)

    def check(self, party, tables, turning, wanted):
        told = self.ask(turns, party, tables, turning)
        self.assertEqual(told, wanted)
        self.assertIs(type(told), int)

    def test_up_to_ahead_of_the_first_round_again(self):
        circle = [1, 2, 3, 4, 0, 5]
        self.check(Party(6, 2), ((0, 5), (1, 4), (2, 3)), circle, 5)
        self.check(Party(6, 2), ((0, 1),), circle, 5)
        self.check(Party(2, 2), ((0, 1),), [1, 0], 1)
        self.check(Party(9, 3), ((0, 3, 6), (1, 4, 7), (2, 5, 8)), [0, 1, 2, 4, 5, 3, 8, 6, 7], 3)

    def test_two_who_sit_together_again_ahead_of_that(self):
        # The pair (3, 4) is back after one turn, (3, 5) after two, (0, 1) after three.
        six = Party(6, 2)
        self.check(six, ((0, 1), (3, 4)), [1, 2, 0, 4, 3, 5], 1)
        self.check(six, ((0, 1), (3, 5)), [1, 2, 0, 4, 3, 5], 2)
        self.check(six, ((0, 1),), [1, 2, 0, 4, 3, 5], 3)
        # Here the pair of another table comes where it was.
        self.check(six, ((0, 1), (2, 3)), [2, 3, 4, 5, 0, 1], 1)
        self.check(six, ((0, 1), (4, 5)), [2, 3, 4, 5, 0, 1], 1)

    def test_at_once_again(self):
        self.check(self.six, ((0, 1, 2), (3, 4, 5)), [0, 1, 2, 3, 4, 5], 1)
        self.check(self.six, ((0, 1),), [1, 0, 2, 3, 4, 5], 1)
        self.check(self.six, ((0, 1), (2, 3)), [2, 3, 4, 5, 0, 1], 1)
        self.check(self.six, ((0, 1, 2), (3, 4, 5)), [0, 1, 3, 2, 4, 5], 1)

    def test_nobody_sits_with_anyone(self):
        self.check(self.six, (), [1, 2, 3, 4, 5, 0], 0)
        self.check(self.six, (), [0, 1, 2, 3, 4, 5], 0)
        self.check(self.six, ((0,),), [1, 2, 3, 4, 5, 0], 0)
        self.check(self.six, ((2,), (4,)), [0, 1, 2, 3, 4, 5], 0)
        self.check(Party(64, 8), tuple((at,) for at in range(8)), list(range(1, 64)) + [0], 0)

    def test_guests_away(self):
        self.check(self.six, ((0, 1), (3,)), [1, 2, 0, 4, 5, 3], 3)
        self.check(self.six, ((2,), (3, 5)), [1, 2, 0, 4, 5, 3], 3)
        self.check(self.six, ((0, 3),), [1, 2, 0, 4, 3, 5], 6)

    def test_many_turns(self):
        circle = list(range(1, 64)) + [0]
        self.check(Party(64, 8), ((0, 1),), circle, 64)
        self.check(Party(64, 8), ((0, 32),), circle, 32)
        self.check(Party(64, 8), ((0, 1, 3),), circle, 64)
        self.check(Party(64, 8), ((0, 1), (5, 6)), circle, 5)
        # Two circles, of 31 and 33 guests.
        two = list(range(1, 31)) + [0] + list(range(32, 64)) + [31]
        self.check(Party(64, 8), ((0, 31),), two, math.lcm(31, 33))

    def test_all_turnings_of_five_and_of_four_guests(self):
        for guests, tables in ((5, ((0, 2),)), (5, ((1, 2, 4),)), (4, ((0, 1), (2, 3))), (4, ((0, 3), (1,)))):
            party = Party(guests, 5 if guests == 5 else 2)
            for turning in itertools.permutations(range(guests)):
                self.check(party, tables, list(turning), plain_turns(tables, turning))

    def test_rounds_of_all_parties(self):
        chance = random.Random(9)
        for guests, size in PARTIES:
            for many in (2, 3, guests):
                # Few tables, so that it takes a while until two sit together again.
                tables = some_round(chance, guests, size)[:many]
                turning = chance.sample(range(guests), guests)
                with self.subTest(guests=guests, tables=tables, turning=turning):
                    self.check(Party(guests, size), tables, turning, plain_turns(tables, turning))


class RefusedTurningsTest(AskingCase):

    def test_what_is_no_turning(self):
        six = Party(6, 3)
        for function in (turned, turns):
            for why, turning in NO_TURNINGS.items():
                # Where nobody sits, or only guests whose numbers stand right, the turning is refused no less.
                for tables in ((), ((0,),), ((0, 1, 2), (3, 4, 5)), ((1, 2),)):
                    with self.subTest(function=function.__name__, why=why, tables=tables):
                        self.check_refused(BadTurning, function, six, tables, turning)

    def test_the_party_decides(self):
        for function in (turned, turns):
            self.ask(function, Party(4, 2), ((0, 1),), [3, 2, 1, 0])
            for party in (Party(2, 2), Party(6, 2), Party(64, 2)):
                self.check_refused(BadTurning, function, party, ((0, 1),), [3, 2, 1, 0])

    def test_what_is_no_round(self):
        six = Party(6, 3)
        turnings = [[0, 1, 2, 3, 4, 5], [5, 4, 3, 2, 1, 0]] + list(NO_TURNINGS.values())
        for function in (turned, turns):
            for tables, turning in itertools.product(NO_ROUNDS, turnings):
                with self.subTest(function=function.__name__, tables=tables, turning=turning):
                    refusal = self.check_refused(BadRound, function, six, tables, turning)
                    self.assertEqual(refusal.number, 0)
                    self.assertIs(type(refusal.number), int)


class MadeTest(AskingCase):

    def check(self, guests, size):
        party = Party(guests, size)
        told = self.ask(made, party)
        self.assertIs(type(told), tuple)
        tables, turning, count, rest = told
        self.check_kind(tables, ((int,),))
        self.check_kind(turning, [int])
        self.assertIs(type(count), int)
        self.check_rounds(rest)
        self.assertEqual(sorted(turning), list(range(guests)))
        rounds = [tables]
        for number in range(count - 1):
            rounds.append(plain_turned(rounds[-1], turning))
        self.check_all(party, rounds[:count] + rest)

    def check_all(self, party, rounds):
        told = self.ask(rounds_made, party)
        self.check_rounds(told)
        self.assertEqual(told, rounds)
        self.assertIsNone(fault(party, told))
        for tables in told:
            self.assertEqual(sorted(guest for table in tables for guest in table), list(range(party.guests())))
            self.assertEqual({len(table) for table in tables}, {party.size()})
        self.assertEqual(len(told), bound(party, [])[0])

    def test_tables_of_two(self):
        for guests, size in TABLES_OF_TWO:
            with self.subTest(guests=guests):
                self.check(guests, size)
                self.assertEqual(len(rounds_made(Party(guests, size))), guests - 1)

    def test_as_many_tables_as_seats(self):
        for guests, size in SQUARES:
            with self.subTest(guests=guests):
                self.check(guests, size)
                self.assertEqual(len(rounds_made(Party(guests, size))), size + 1)

    def test_others(self):
        others = [party for party in PARTIES if party not in TABLES_OF_TWO + SQUARES]
        for party in ((16, 4), (15, 3), (36, 6), (64, 8), (3, 3), (5, 5), (6, 3), (21, 7), (35, 7), (63, 7)):
            self.assertIn(party, others)
        for guests, size in others:
            with self.subTest(guests=guests, size=size):
                self.assertIsNone(self.ask(made, Party(guests, size)))
                self.assertEqual(self.ask(rounds_made, Party(guests, size)), [])
                self.assertIs(type(rounds_made(Party(guests, size))), list)
