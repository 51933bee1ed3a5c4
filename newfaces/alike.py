"""Alike: plans that are the same but for the names of their guests and the order of their rounds."""

from newfaces.rounds import check_plan


def alike(party, one, other):
    """Tell a turning by which the one's rounds are the other's, in whatever order, or None."""
    check_plan(party, one)
    check_plan(party, other)
    # Rounds of no tables show at nobody's seats, so all rounds are counted here.
    if len(one) != len(other):
        return None
    guests = party.guests()
    # The other's guests are numbered behind the one's, so that one and the same kind may hold some of both.
    both = one + [moved(tables, guests) for tables in other]
    return turning_by_kinds(both, [0] * (2 * guests))


def moved(tables, by):
    """Tell these tables with the number of each guest raised."""
    return tuple([tuple([guest + by for guest in table]) for table in tables])


def turning_by_kinds(both, kinds):
    """Tell a turning of the one's guests to the other's, each to one of its kind, or None."""
    kinds = told_apart(both, kinds)
    half = len(kinds) // 2
    ones, others = kinds[:half], kinds[half:]
    if sorted(ones) != sorted(others):
        return None
    shared = [kind for kind in ones if ones.count(kind) > 1]
    # Kinds of one guest each are the same only where all rounds are, too.
    if not shared:
        return [others.index(kind) for kind in ones]
    # Who sits nowhere is of the lowest kind, and may go to any: so those are matched last.
    chosen = max(shared)
    for place in [at for at in range(half) if others[at] == chosen]:
        turning = turning_by_kinds(both, set_apart(kinds, (ones.index(chosen), half + place)))
        if turning is not None:
            return turning
    return None


def told_apart(plan, kinds):
    """Tell the kinds parted further, until guests of one kind sit at tables and in rounds of the same kinds."""
    many = 0
    while len(set(kinds)) > many:
        many = len(set(kinds))
        shown = shown_seats(plan, kinds)
        numbers = {seats: number for number, seats in enumerate(sorted(set(shown)))}
        kinds = [numbers[seats] for seats in shown]
    return kinds


def shown_seats(plan, kinds):
    """Tell for each guest its kind, and of each round and table where it sits the kinds, all rising."""
    seats = [[] for kind in kinds]
    for tables in plan:
        shown = [kinds_at(table, kinds) for table in tables]
        together = tuple(sorted(shown))
        for table, company in zip(tables, shown):
            for guest in table:
                seats[guest].append((together, company))
    return [(kind, tuple(sorted(places))) for kind, places in zip(kinds, seats)]


def kinds_at(table, kinds):
    """Tell the kinds of those who sit at a table, rising."""
    return tuple(sorted([kinds[guest] for guest in table]))


def set_apart(kinds, guests):
    """Tell the kinds with a new one, above all others, for these guests."""
    return [len(kinds) if guest in guests else kind for guest, kind in enumerate(kinds)]
