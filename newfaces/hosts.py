"""Hosts: guests who stay, one a table, and plans made with them."""

from newfaces.errors import BadParty
from newfaces.meetings import unmet
from newfaces.nexts import fitting
from newfaces.parties import SMALLEST_SIZE

HOSTED_TABLES = (2, 3, 5, 7)


def with_hosts(tables, size):
    """Tell a good plan of as many full rounds as tables, at whose i-th table host i stays."""
    if tables not in HOSTED_TABLES or not SMALLEST_SIZE <= size <= tables:
        raise BadParty(f"there is no plan with hosts at {tables} tables of {size}")
    return [hosted(tables, size, number) for number in range(tables)]


def hosted(tables, size, number):
    """Tell the round of a number in a plan with hosts."""
    seated = [[host] for host in range(tables)]
    # The tables are a prime number, so two who move on by unlike steps come to one table just once.
    for step in range(1, size):
        for place in range(tables):
            seated[(place + step * number) % tables].append(step * tables + place)
    return tuple([tuple(table) for table in seated])


def hosts(party, plan):
    """Tell the first guests, as many as tables, of whom just one sits at each table of a plan, or None."""
    strangers = unmet(party, plan)
    taken = [table for tables in plan for table in tables]
    return first_hosts(strangers, taken, party.tables(), list(range(party.guests())))


def first_hosts(strangers, taken, many, standing):
    """Tell the first so many strangers among those who stand, one for each table that is taken, or None."""
    if many == 0:
        return None if taken else []
    # No choice can help a table at which none of those who stand sits.
    if not all([sits_there(table, standing) for table in taken]):
        return None
    for guest in standing:
        others_taken = [table for table in taken if guest not in table]
        others = first_hosts(strangers, others_taken, many - 1, fitting(strangers, guest, standing))
        if others is not None:
            return [guest] + others
    return None


def sits_there(table, standing):
    """Tell whether one of those who stand sits at a table."""
    return any([guest in table for guest in standing])
