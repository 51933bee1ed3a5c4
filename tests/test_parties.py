"""Point 2: which parties there are."""

import unittest

from newfaces.errors import BadParty, BadRound, BadText, BadTurning, PartyError
from newfaces.parties import Party


class PartyTest(unittest.TestCase):

    def check_party(self, guests, size, tables):
        party = Party(guests, size)
        told = (party.guests(), party.size(), party.tables())
        self.assertEqual(told, (guests, size, tables))
        for number in told:
            self.assertIs(type(number), int)
        self.assertEqual((party.guests(), party.size(), party.tables()), told)

    def check_refused(self, guests, size):
        with self.subTest(guests=guests, size=size):
            with self.assertRaises(BadParty) as caught:
                Party(guests, size)
            self.assertIs(type(caught.exception), BadParty)
            self.assertIsInstance(caught.exception, PartyError)
            self.assertIsInstance(caught.exception, ValueError)
            self.assertNotIsInstance(caught.exception, (BadRound, BadTurning, BadText))

    def test_parties_at_the_bounds(self):
        self.check_party(2, 2, 1)
        self.check_party(64, 2, 32)
        self.check_party(8, 8, 1)
        self.check_party(64, 8, 8)

    def test_ordinary_parties(self):
        self.check_party(9, 3, 3)
        self.check_party(12, 4, 3)
        self.check_party(12, 3, 4)
        self.check_party(35, 7, 5)
        self.check_party(60, 5, 12)

    def test_guests_beyond_the_bounds(self):
        # The sizes go into these numbers, so that nothing but the number is wrong.
        for guests, size in ((0, 2), (0, 8), (-2, 2), (-8, 8), (65, 5), (66, 2), (66, 6), (72, 8), (1000, 8)):
            self.check_refused(guests, size)

    def test_one_guest_alone_is_no_party(self):
        self.check_refused(1, 1)
        self.check_refused(1, 2)

    def test_sizes_beyond_the_bounds(self):
        for guests, size in ((2, 1), (64, 1), (9, 9), (18, 9), (63, 9), (10, 10), (64, 64), (4, -2), (64, -8)):
            self.check_refused(guests, size)

    def test_numbers_far_beyond_the_bounds(self):
        far = 10 ** 30
        for guests, size in ((far, 2), (far, 8), (-far, 2), (8, far), (8, -far), (far, far), (-far, -far), (64, 1000)):
            self.check_refused(guests, size)

    def test_tables_of_no_seats(self):
        self.check_refused(4, 0)
        self.check_refused(0, 0)

    def test_sizes_that_do_not_go_into_the_number(self):
        for guests, size in ((3, 2), (63, 2), (4, 3), (64, 3), (2, 3), (2, 8), (7, 8), (60, 8), (64, 7), (12, 5)):
            self.check_refused(guests, size)

    def test_all_parties_around_the_bounds(self):
        counts = {(size, tables): size * tables for size in range(2, 9) for tables in range(1, 33)}
        those = {(guests, size): tables for (size, tables), guests in counts.items() if guests <= 64}
        for guests in range(-10, 80):
            for size in range(-3, 13):
                if (guests, size) in those:
                    self.check_party(guests, size, those[(guests, size)])
                else:
                    self.check_refused(guests, size)

    def test_parties_are_apart(self):
        one, other = Party(6, 2), Party(12, 4)
        self.assertEqual((one.guests(), one.size(), one.tables()), (6, 2, 3))
        self.assertEqual((other.guests(), other.size(), other.tables()), (12, 4, 3))

    def test_interface(self):
        self.assertEqual(Party.__module__, "newfaces.parties")
        for name in ("guests", "size", "tables"):
            self.assertIn(name, vars(Party))
