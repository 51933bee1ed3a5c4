"""Next rounds: all full rounds that may come behind a plan."""

from newfaces.meetings import unmet


def next_rounds(party, plan):
    """Tell all full rounds in which no two sit together who have met in a plan, rising."""
    return seatings(unmet(party, plan), party.size(), list(range(party.guests())))


def seatings(strangers, size, standing):
    """Tell all ways to seat those who stand at full tables of strangers, rising."""
    if not standing:
        return [()]
    found = []
    # The first who stands begins the next table, so each round is met once, and all of them rise.
    first = standing[0]
    for table in tables_behind(strangers, size, (first,), fitting(strangers, first, standing)):
        left = [guest for guest in standing if guest not in table]
        for others in seatings(strangers, size, left):
            found.append((table,) + others)
    return found


def tables_behind(strangers, size, begun, behind):
    """Tell all full tables that go on from those who sit there with some of those behind, rising."""
    if len(begun) == size:
        return [begun]
    found = []
    for guest in behind:
        found.extend(tables_behind(strangers, size, begun + (guest,), fitting(strangers, guest, behind)))
    return found


def fitting(strangers, guest, others):
    """Tell those of the others, in their order, who are above a guest and have not met it."""
    return [other for other in others if other > guest and other in strangers[guest]]
