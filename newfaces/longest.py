"""The longest way on: as many full rounds as can come behind a plan, and why no more can."""

from newfaces.meetings import unmet
from newfaces.nexts import next_rounds
from newfaces.rounds import pairs


def bound(party, plan):
    """Tell (number, reason): a number of full rounds that cannot be passed behind a plan."""
    counts = [len(others) // (party.size() - 1) for others in unmet(party, plan)]
    number = min(counts)
    # Each table of a second round would seat two of one table of the first, the tables being too few.
    if party.tables() < party.size() and number > 1:
        return (1, ("tables", party.tables()))
    return (number, ("guest", counts.index(number)))


def longest(party, plan):
    """Tell (rounds, reason): as many full rounds as can come behind a plan, and why no more can."""
    number, reason = bound(party, plan)
    candidates = next_rounds(party, plan)
    together = [pair_bits(party, tables) for tables in candidates]
    chain = longest_chain(together, list(range(len(candidates))), number)
    rounds = [candidates[at] for at in chain]
    if len(rounds) == number:
        return (rounds, reason)
    lengths = [chain_length_with(together, at, len(chain)) for at in range(len(candidates))]
    return (rounds, ("cases", list(zip(candidates, lengths))))


def pair_bits(party, tables):
    """Tell a number with one bit for each pair of guests that sit together at these tables."""
    return sum([1 << (a * party.guests() + b) for a, b in pairs(tables)])


def longest_chain(together, places, most):
    """Tell a longest list of places of rounds that may come with each other, none longer than most."""
    best = []
    # Rounds may come in any order, so each chain is looked for from the first of its places only.
    for at, place in enumerate(places):
        if len(best) == most:
            break
        chain = [place] + longest_chain(together, compatible(together, place, places[at + 1:]), most - 1)
        if len(chain) > len(best):
            best = chain
    return best


def chain_length_with(together, place, most):
    """Tell how long a chain is at the most that holds the round at a place; none is longer than most."""
    others = compatible(together, place, list(range(len(together))))
    return 1 + len(longest_chain(together, others, most - 1))


def compatible(together, place, others):
    """Tell those of the other places at whose rounds none sit together who do so at the round of a place."""
    return [other for other in others if together[place] & together[other] == 0]
