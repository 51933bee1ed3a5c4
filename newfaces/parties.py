"""Parties: how many guests there are, and how many sit at a table."""

from newfaces.errors import BadParty

FEWEST_GUESTS = 2
MOST_GUESTS = 64
SMALLEST_SIZE = 2
LARGEST_SIZE = 8


class Party:
    """Guests, numbered from 0, and the size of their tables."""

    def __init__(self, guests, size):
        if not is_party(guests, size):
            raise BadParty(f"there is no party of {guests} guests at tables of {size}")
        self.many = guests
        self.seats = size

    def guests(self):
        """Tell how many guests there are."""
        return self.many

    def size(self):
        """Tell how many seats a table has."""
        return self.seats

    def tables(self):
        """Tell how many tables there are when all sit."""
        return self.many // self.seats


def is_party(guests, size):
    """Tell whether there is a party of so many guests at tables of such a size."""
    if not FEWEST_GUESTS <= guests <= MOST_GUESTS:
        return False
    # The size is looked at ahead of the division: a size of 0 divides nothing.
    if not SMALLEST_SIZE <= size <= LARGEST_SIZE:
        return False
    return guests % size == 0
