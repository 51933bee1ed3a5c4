"""Texts: a plan written by the names of its guests, and read again."""

from newfaces.errors import BadText
from newfaces.rounds import is_round

ROWS_APART = "\n"
TABLES_APART = " | "
NAMES_APART = " "


def written(party, plan, names):
    """Tell the text of a plan, a row for each round."""
    return ROWS_APART.join([written_row(tables, names) for tables in plan])


def written_row(tables, names):
    """Tell the row of a round."""
    return TABLES_APART.join([NAMES_APART.join([names[guest] for guest in table]) for table in tables])


def read(party, text, names):
    """Tell the plan of a text; refuse, with BadText, its first row that is no round so written."""
    # The empty text would be one empty row, but it is that of a plan of no rounds.
    if text == "":
        return []
    guests = {name: guest for guest, name in enumerate(names)}
    plan = []
    for number, row in enumerate(text.split(ROWS_APART)):
        tables = read_row(party, row, guests)
        if tables is None:
            raise BadText(number)
        plan.append(tables)
    return plan


def read_row(party, row, guests):
    """Tell the round of a row, whatever the order of its names and tables, or None if it is none."""
    words = [part.split(NAMES_APART) for part in row.split(TABLES_APART)]
    if not all([name in guests for table in words for name in table]):
        return None
    tables = tuple(sorted([tuple(sorted([guests[name] for name in table])) for table in words]))
    return tables if is_round(party, tables) else None
