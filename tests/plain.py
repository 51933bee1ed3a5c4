"""What the document says, tried out word by word, and a case that asks with an eye on point 1."""

import copy
import functools
import itertools
import unittest

from newfaces.errors import BadParty, BadRound, BadText, BadTurning, PartyError
from newfaces.parties import Party

REFUSALS = (BadParty, BadRound, BadTurning, BadText)

# All parties that there are, as (guests, size).
PARTIES = [(size * tables, size) for size in range(2, 9) for tables in range(1, 64 // size + 1) if size * tables > 1]


def pairs_of(plan):
    """All pairs that sit together in a plan, as often as they do."""
    return [pair for tables in plan for table in tables for pair in itertools.combinations(table, 2)]


@functools.lru_cache(None)
def all_full_rounds(guests, size):
    """All full rounds of a small party, chosen from all sets of tables, with the pairs of each."""
    tables = list(itertools.combinations(range(guests), size))
    chosen = itertools.combinations(tables, guests // size)
    rounds = [tuple(one) for one in chosen if len({guest for table in one for guest in table}) == guests]
    return [(one, frozenset(pairs_of([one]))) for one in sorted(rounds)]


def plain_next(guests, size, plan):
    have_met = set(pairs_of(plan))
    return [one for one, together in all_full_rounds(guests, size) if not together & have_met]


def plain_most(guests, size, plan):
    """How many rounds can come behind a plan, by trying all, one behind another."""
    @functools.lru_cache(None)
    def most(have_met):
        after = [together for one, together in all_full_rounds(guests, size) if not together & have_met]
        return max([1 + most(have_met | together) for together in after], default=0)
    return most(frozenset(pairs_of(plan)))


def plain_turned(tables, turning):
    """The round that comes of a round, by asking of each two guests whether they go to one table."""
    places = {turning[guest]: at for at, table in enumerate(tables) for guest in table}
    return tuple(sorted(tuple(sorted(guest for guest in places if places[guest] == at)) for at in range(len(tables))))


def some_full_round(chance, guests, size):
    standing = chance.sample(range(guests), guests)
    return tuple(sorted(tuple(sorted(standing[at:at + size])) for at in range(0, guests, size)))


def some_round(chance, guests, size):
    """A round in which some are away, and some tables are gone."""
    standing = chance.sample(range(guests), guests)
    tables = [standing[at:at + size] for at in range(0, guests, size)]
    stay = [sorted(table[:chance.randint(1, size)]) for table in tables if chance.randrange(4)]
    return tuple(sorted(tuple(table) for table in stay))


def alone(*pairs):
    """A plan at each round of which one table stands."""
    return [(pair,) for pair in pairs]


def spoil(thing):
    """Change every list in a thing, however deep it lies."""
    if isinstance(thing, (list, tuple)):
        for inner in thing:
            spoil(inner)
    if isinstance(thing, list):
        thing.clear()
        thing.append("spoilt")


class AskingCase(unittest.TestCase):

    def ask(self, function, party, *things):
        """What is told; what was handed in stays, is not kept, and what is told may be changed."""
        numbers = (party.guests(), party.size(), party.tables())
        handed = copy.deepcopy(things)
        told = function(party, *handed)
        self.assertEqual(handed, things)
        wanted = copy.deepcopy(told)
        spoil(handed)
        self.assertEqual(told, wanted)
        handed = copy.deepcopy(things)
        again = function(party, *handed)
        self.assertEqual(again, wanted)
        spoil(again)
        self.assertEqual(handed, things)
        self.assertEqual(function(party, *handed), wanted)
        self.assertEqual(function(Party(*numbers[:2]), *handed), wanted)
        self.assertEqual((party.guests(), party.size(), party.tables()), numbers)
        return wanted

    def check_refused(self, refusal, function, party, *things):
        """The refusal that is raised, and that what was handed in stays."""
        handed = copy.deepcopy(things)
        with self.assertRaises(refusal) as caught:
            function(party, *handed)
        self.assertIs(type(caught.exception), refusal)
        self.assertIsInstance(caught.exception, PartyError)
        self.assertIsInstance(caught.exception, ValueError)
        self.assertNotIsInstance(caught.exception, tuple(other for other in REFUSALS if other is not refusal))
        self.assertEqual(handed, things)
        return caught.exception

    def check_kind(self, value, kind):
        """Kinds: int, [kind] for a list, (kind,) for a tuple of however many."""
        if isinstance(kind, type):
            self.assertIs(type(value), kind)
            return
        self.assertIs(type(value), type(kind))
        for inner in value:
            self.check_kind(inner, kind[0])

    def check_rounds(self, value):
        """A list of tuples of tuples of numbers."""
        self.check_kind(value, [((int,),)])
