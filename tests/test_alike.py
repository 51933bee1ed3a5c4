"""Points 13 and 15: plans that are alike but for names."""

import collections
import itertools
import random

from newfaces.alike import alike
from newfaces.hosts import with_hosts
from newfaces.nexts import next_rounds
from newfaces.parties import Party
from newfaces.turnings import rounds_made, turned
from tests.plain import PARTIES, AskingCase, alone, plain_turned, some_full_round, some_round

SMALL = [(guests, size) for guests, size in PARTIES if guests <= 9]


def circle(*guests):
    """A plan in which each guest sits once with the next one, and the last one with the first."""
    return alone(*[tuple(sorted(pair)) for pair in zip(guests, guests[1:] + guests[:1])])


def plain_alike(guests, one, other):
    """Whether there is a turning, by trying all."""
    for turning in itertools.permutations(range(guests)):
        if all(plain_turned(tables, turning) in other for tables in one):
            if collections.Counter(plain_turned(tables, turning) for tables in one) == collections.Counter(other):
                return True
    return False


def renamed(chance, guests, plan):
    turning = chance.sample(range(guests), guests)
    return [plain_turned(tables, turning) for tables in chance.sample(plan, len(plan))]


class AlikeTest(AskingCase):

    def check_alike(self, party, one, other):
        for ahead, behind in ((one, other), (other, one)):
            turning = self.ask(alike, party, ahead, behind)
            self.check_kind(turning, [int])
            self.assertEqual(sorted(turning), list(range(party.guests())))
            told = [plain_turned(tables, turning) for tables in ahead]
            self.assertEqual(collections.Counter(told), collections.Counter(behind))
            self.assertEqual(told, [turned(party, tables, turning) for tables in ahead])

    def check_none(self, party, one, other):
        for ahead, behind in ((one, other), (other, one)):
            self.assertIsNone(self.ask(alike, party, ahead, behind))

    def check(self, party, one, other):
        found = plain_alike(party.guests(), one, other)
        if found:
            self.check_alike(party, one, other)
        else:
            self.check_none(party, one, other)
        return found

    def test_two_plans_of_no_rounds(self):
        for guests, size in SMALL:
            self.check_alike(Party(guests, size), [], [])

    def test_a_plan_and_itself(self):
        for guests, size in SMALL:
            plan = rounds_made(Party(guests, size)) or [(tuple(range(size)),), ((1,),)]
            self.check_alike(Party(guests, size), plan, plan)

    def test_the_way_of_the_turning(self):
        # Only one turning takes the one to the other, and it isn't the same the other way round.
        one = [((0,),), ((0, 1),), ((0, 1, 2),)]
        other = [((1,),), ((1, 2),), ((0, 1, 2),)]
        self.assertEqual(alike(Party(3, 3), one, other), [1, 2, 0])
        self.assertEqual(alike(Party(3, 3), other, one), [2, 0, 1])
        self.check_alike(Party(3, 3), one, other)

    def test_renamed(self):
        party = Party(6, 2)
        plan = [((0, 1), (2, 3), (4, 5)), ((0, 2), (1, 4)), ((3, 5),), ()]
        turning = [4, 2, 0, 5, 1, 3]
        self.check_alike(party, plan, [plain_turned(tables, turning) for tables in plan])

    def test_in_another_order(self):
        party = Party(6, 2)
        plan = [((0, 1), (2, 3), (4, 5)), ((0, 2), (1, 4)), ((3, 5),), ()]
        for order in itertools.permutations(plan):
            self.check_alike(party, plan, list(order))

    def test_renamed_and_in_another_order(self):
        chance = random.Random(16)
        for guests, size in SMALL:
            for number in range(30):
                some = chance.choice((some_round, some_full_round))
                plan = [some(chance, guests, size) for at in range(chance.randrange(6))]
                with self.subTest(guests=guests, size=size, plan=plan):
                    self.check_alike(Party(guests, size), plan, renamed(chance, guests, plan))

    def test_plans_in_which_all_guests_sit_alike(self):
        chance = random.Random(17)
        for guests, size in ((4, 2), (6, 2), (8, 2), (9, 3)):
            plan = rounds_made(Party(guests, size))
            for number in range(6):
                for some in (plan, plan[:-1], plan[1:], plan[:2], plan + plan[:1]):
                    self.check_alike(Party(guests, size), some, renamed(chance, guests, some))
        plan = with_hosts(3, 3)
        self.check_alike(Party(9, 3), plan, renamed(chance, 9, plan))
        self.check_alike(Party(9, 3), plan, rounds_made(Party(9, 3))[1:])

    def test_a_round_that_stands_twice(self):
        party, tables, others = Party(4, 2), ((0, 1), (2, 3)), ((0, 2), (1, 3))
        self.check_alike(party, [tables, tables], [others, others])
        self.check_alike(party, [tables, tables, others], [others, tables, others])
        self.check_none(party, [tables, tables], [tables, others])
        self.check_none(party, [tables, tables, others], [tables, others, ((0, 3), (1, 2))])
        self.check_alike(party, alone((0, 1), (0, 1), (2, 3)), alone((1, 2), (0, 3), (0, 3)))
        self.check_none(party, alone((0, 1), (0, 1), (1, 2)), alone((0, 1), (1, 2), (1, 3)))
        # Each as often: three and one are not two and two.
        self.check_none(party, alone((0, 1), (0, 1), (0, 1), (2, 3)), alone((0, 1), (0, 1), (2, 3), (2, 3)))

    def test_unlike_counts_of_rounds(self):
        party, tables = Party(4, 2), ((0, 1), (2, 3))
        self.check_none(party, [], [tables])
        self.check_none(party, [tables], [tables, tables])
        self.check_none(party, [tables], [tables, ((0, 2), (1, 3))])
        self.check_none(party, [tables, ((0, 1),)], [tables])

    def test_rounds_of_no_tables(self):
        party, tables = Party(4, 2), ((0, 1), (2, 3))
        self.check_none(party, [], [()])
        self.check_none(party, [()], [(), ()])
        self.check_none(party, [tables], [()])
        self.check_none(party, [tables, tables], [tables, ()])
        self.check_none(party, [tables], [tables, ()])
        self.check_alike(party, [()], [()])
        self.check_alike(party, [(), tables, ()], [(), (), ((0, 2), (1, 3))])
        # Where nobody sits at all, all turnings would have to be tried.
        self.check_none(Party(9, 3), [()] * 3, [()] * 4)

    def test_unlike_tables(self):
        self.check_none(Party(4, 2), [((0, 1), (2, 3))], [((0, 1),)])
        self.check_none(Party(4, 2), [((0, 1),)], [((0,), (1,))])
        self.check_none(Party(6, 3), [((0, 1, 2), (3,))], [((0, 1), (2, 3))])
        # The same tables, but in other rounds with each other.
        self.check_none(Party(6, 2), [((0, 1), (2, 3)), ((0, 2),)], [((0, 1), (2,)), ((0, 2), (3,))])
        self.check_none(Party(6, 2), [((0, 1), (2, 3)), ((1, 2), (4, 5))], [((0, 1), (4, 5)), ((1, 2), (4, 5))])
        tables = ((0, 1), (2, 3))
        self.check_none(Party(6, 2), [tables, ((0, 4),), ((2, 5),)], [tables, ((0, 4), (2, 5)), ()])

    def test_rounds_of_the_same_sizes(self):
        # In the one 1 sits at both tables, in the other nobody does.
        self.check_none(Party(4, 2), alone((0, 1), (1, 2)), alone((0, 1), (2, 3)))
        self.check_none(Party(4, 2), alone((0, 1), (1, 2), (0, 2)), alone((0, 1), (0, 2), (0, 3)))
        self.check_none(Party(6, 3), [((0, 1, 2), (3, 4, 5)), ((0, 1, 3), (2, 4, 5))],
                        [((0, 1, 2), (3, 4, 5)), ((0, 1, 2), (3, 4, 5))])

    def test_guests_who_are_known_by_how_often_they_sit_alone(self):
        # So just one turning is left, and the pairs decide.
        party, often = Party(4, 2), alone((1,), (2,), (2,), (3,), (3,), (3,))
        rounds = [((0, 1), (2, 3)), ((0, 2), (1, 3)), ((0, 3), (1, 2))]
        for one, other in itertools.permutations(rounds, 2):
            self.check_none(party, often + [one], [other] + often)
            self.check_none(party, often + [one, ((0,), (1,))], [other, ((0,), (1,))] + often)
            self.check_alike(party, often + [one, other], [other, one] + often)
        plan = often + rounds[:1]
        self.assertEqual(alike(party, plan, [plain_turned(tables, [2, 0, 3, 1]) for tables in plan]), [2, 0, 3, 1])

    def test_each_guest_sits_in_as_many_rounds_of_the_same_sizes(self):
        # A circle of eight, and two of four; of nine, and of three and six, and so on.
        eight, nine = Party(8, 2), Party(9, 3)
        self.check_none(eight, circle(*range(8)), circle(0, 1, 2, 3) + circle(4, 5, 6, 7))
        self.check_none(eight, circle(*range(8)), circle(0, 1, 2) + circle(3, 4, 5, 6, 7))
        self.check_none(eight, circle(0, 1, 2, 3) + circle(4, 5, 6, 7), circle(0, 1, 2) + circle(3, 4, 5, 6, 7))
        self.check_none(nine, circle(*range(9)), circle(0, 1, 2) + circle(3, 4, 5, 6, 7, 8))
        self.check_none(nine, circle(0, 1, 2) + circle(3, 4, 5) + circle(6, 7, 8), circle(*range(9)))
        self.check_none(nine, circle(0, 1, 2, 3, 4, 5), circle(0, 1, 2) + circle(3, 4, 5))
        self.check_alike(nine, circle(0, 1, 2) + circle(3, 4, 5, 6, 7, 8), circle(8, 3, 0) + circle(7, 2, 6, 1, 5, 4))
        self.check_alike(eight, circle(0, 1, 2) + circle(3, 4, 5, 6, 7), circle(1, 3, 5, 7, 0) + circle(6, 2, 4))

    def test_circles_of_full_rounds(self):
        # Two full rounds of pairs make one circle of eight, or two of four.
        eight = Party(8, 2)
        tables = ((0, 1), (2, 3), (4, 5), (6, 7))
        one, two = ((0, 7), (1, 2), (3, 4), (5, 6)), ((0, 3), (1, 2), (4, 7), (5, 6))
        self.check_none(eight, [tables, one], [tables, two])
        self.check_alike(eight, [tables, one], [one, tables])
        self.check_alike(eight, [tables, two], [((0, 2), (1, 3), (4, 6), (5, 7)), ((0, 6), (1, 5), (2, 4), (3, 7))])

    def test_who_sits_nowhere(self):
        party = Party(9, 3)
        self.check_alike(party, [((0,),)], [((8,),)])
        self.check_alike(party, alone((0, 1), (0, 2)), alone((7, 8), (6, 8)))
        self.check_none(party, alone((0, 1), (0, 2)), alone((0, 1), (2, 3)))

    def test_all_pairs_of_plans_of_four_guests(self):
        party = Party(4, 2)
        rounds = [(), ((0,),), ((3,),), ((1,), (2,)), ((0, 1),), ((2, 3),), ((0, 2),), ((0, 1), (2, 3)), ((0, 3), (1,))]
        plans = [list(plan) for many in range(3) for plan in itertools.product(rounds, repeat=many)]
        found = 0
        for one, other in itertools.combinations_with_replacement(plans, 2):
            if len(one) == len(other):
                wanted = plain_alike(4, one, other)
                self.assertEqual(alike(party, one, other) is not None, wanted, (one, other))
                found += wanted
        self.assertGreater(found, 200)

    def test_plans_of_all_small_parties(self):
        chance, found = random.Random(18), []
        for guests, size in SMALL:
            # All turnings are tried of each pair of plans.
            for number in range({7: 12, 8: 3, 9: 0}.get(guests, 60)):
                some = chance.choice((some_round, some_full_round))
                rounds = [some(chance, guests, size) for at in range(3)]
                one = [chance.choice(rounds) for at in range(chance.randrange(1, 5))]
                other = [chance.choice(rounds) for at in one]
                other = renamed(chance, guests, other)
                with self.subTest(guests=guests, size=size, one=one, other=other):
                    found.append(self.check(Party(guests, size), one, other))
        self.assertGreater(found.count(True), 50)
        self.assertGreater(found.count(False), 50)

    def test_many_rounds(self):
        chance = random.Random(19)
        for guests, size in ((8, 4), (8, 2), (9, 3)):
            party, rounds = Party(guests, size), next_rounds(Party(guests, size), [])
            self.check_alike(party, rounds, renamed(chance, guests, rounds))
            self.check_alike(party, rounds + rounds[:1], renamed(chance, guests, rounds + rounds[5:6]))
        eight, rounds = Party(8, 4), next_rounds(Party(8, 4), [])
        self.check_none(eight, rounds + rounds[:1], rounds[2:] + rounds[:1] * 3)
        # Two rounds are away: three of a table stay together in both of those, or no more than two.
        others = [tables for tables in rounds[1:] if tables != ((0, 1, 4, 5), (2, 3, 6, 7))]
        self.assertEqual(rounds[1], ((0, 1, 2, 4), (3, 5, 6, 7)))
        self.check_none(eight, rounds[2:], others)
