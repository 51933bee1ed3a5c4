"""Rounds: which things are rounds, who sits together in them, and what is wrong with a plan."""

from newfaces.errors import BadRound


def fault(party, plan):
    """Tell what is wrong with a plan first: ("round", k), ("twice", a, b, j, k), or None."""
    met_in = {}
    for number, thing in enumerate(plan):
        if not is_round(party, thing):
            return ("round", number)
        together = pairs(thing)
        for a, b in together:
            if (a, b) in met_in:
                return ("twice", a, b, met_in[(a, b)], number)
        for pair in together:
            met_in[pair] = number
    return None


def check_plan(party, plan):
    """Refuse, with BadRound, the first thing of a plan that is no round of the party."""
    for number, thing in enumerate(plan):
        if not is_round(party, thing):
            raise BadRound(number)


def is_round(party, thing):
    """Tell whether a tuple of tuples of numbers is a round of the party."""
    if len(thing) > party.tables():
        return False
    if not all([is_table(party, table) for table in thing]):
        return False
    sitting = [guest for table in thing for guest in table]
    if len(set(sitting)) < len(sitting):
        return False
    return rises([table[0] for table in thing])


def is_table(party, table):
    """Tell whether a tuple of numbers is a table of the party."""
    if not 1 <= len(table) <= party.size():
        return False
    # Where all rise, no guest between the first and the last is out of bounds.
    return rises(table) and table[0] >= 0 and table[-1] < party.guests()


def rises(numbers):
    """Tell whether each number is above the one ahead of it."""
    return all([low < high for low, high in zip(numbers, numbers[1:])])


def pairs(tables):
    """Tell all pairs (a, b), a < b, of guests that sit together at these tables, rising."""
    # A later table may hold a lesser pair: at (0, 4, 5), (1, 2, 3) the pair (1, 2) comes ahead of (4, 5).
    return sorted([(a, b) for table in tables for at, a in enumerate(table) for b in table[at + 1:]])
