"""Turnings: rounds that come of a round by moving each guest to another's seat, and plans made so."""

from newfaces.errors import BadTurning
from newfaces.rounds import check_plan, pairs

SQUARE_SIZES = (3, 5, 7)


def turned(party, tables, turning):
    """Tell the round that comes of a round if each guest is replaced by the turning's thing at its number."""
    check_turn(party, tables, turning)
    return replaced(tables, turning)


def turns(party, tables, turning):
    """Tell how many rounds there are ahead of the first turned one in which two sit together again."""
    check_turn(party, tables, turning)
    together = pairs(tables)
    # Where nobody sits with anyone, no two would ever sit together again.
    if not together:
        return 0
    seen = set()
    count = 0
    while not any([pair in seen for pair in together]):
        for pair in together:
            seen.add(pair)
        count += 1
        tables = replaced(tables, turning)
        together = pairs(tables)
    return count


def made(party):
    """Tell a full plan by turnings, (round, turning, count, rest), or None if none is known."""
    if party.size() == 2:
        return made_of_pairs(party.guests())
    if party.size() in SQUARE_SIZES and party.tables() == party.size():
        return made_of_square(party.size())
    return None


def rounds_made(party):
    """Tell all rounds of the plan that made tells, or none if it tells none."""
    told = made(party)
    if told is None:
        return []
    tables, turning, count, rest = told
    rounds = []
    for number in range(count):
        rounds.append(tables)
        tables = replaced(tables, turning)
    return rounds + rest


def check_turn(party, tables, turning):
    """Refuse what is no round with BadRound, and behind it what is no turning with BadTurning."""
    check_plan(party, [tables])
    if sorted(turning) != list(range(party.guests())):
        raise BadTurning(f"this is no list of all {party.guests()} guests, each once")


def replaced(tables, turning):
    """Tell these tables with each guest replaced, rising again."""
    return tuple(sorted([tuple(sorted([turning[guest] for guest in table])) for table in tables]))


def made_of_pairs(guests):
    """Tell the plan for tables of two: the last guest stays, the others move around a circle."""
    last = guests - 1
    # The circle is odd, so the pairs around 0 lie apart by each distance once, and no turn brings one back.
    tables = ((0, last),) + tuple([(at, last - at) for at in range(1, guests // 2)])
    return (tables, list(range(1, last)) + [0, last], last, [])


def made_of_square(size):
    """Tell the plan for as many tables as seats, a prime: guests stand in a square of rows and columns."""
    square = size * size
    columns = tuple([tuple(range(at, square, size)) for at in range(size)])
    rows = tuple([tuple(range(at, at + size)) for at in range(0, square, size)])
    # Row r moves on by r columns, so two of unlike rows sit together in just one of as many turns as seats.
    turning = [guest // size * size + (guest + guest // size) % size for guest in range(square)]
    return (columns, turning, size, [rows])
