"""Late and away: seats for one more who comes late, and a plan when a guest leaves."""

from newfaces.rounds import check_plan


def comes(party, plan, first):
    """Tell the first tables, one of round first and of each behind it, where one more meets nobody twice, or None."""
    check_plan(party, plan)
    return first_seats([list(enumerate(tables)) for number, tables in enumerate(plan) if number >= first])


def first_seats(choices):
    """Tell the first numbers, one of each round's choices of numbered tables, where nobody is met twice, or None."""
    if not all(choices):
        return None
    if not choices:
        return []
    for number, table in choices[0]:
        seats = first_seats([apart(table, others) for others in choices[1:]])
        if seats is not None:
            return [number] + seats
    return None


def apart(table, others):
    """Tell those of the other numbered tables at which nobody of this table sits."""
    return [(number, other) for number, other in others if not any([guest in table for guest in other])]


def leaves(party, plan, guest, last):
    """Tell the plan without a guest in all rounds behind the one numbered last."""
    check_plan(party, plan)
    return [without(tables, guest) if number > last else tables for number, tables in enumerate(plan)]


def without(tables, guest):
    """Tell these tables without a guest, rising again; those at which nobody is left are gone."""
    left = [tuple([other for other in table if other != guest]) for table in tables]
    return tuple(sorted([table for table in left if table]))
