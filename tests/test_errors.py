"""The refusals: how they stand under each other, and what they carry."""

import unittest

from newfaces import errors
from newfaces.errors import BadParty, BadRound, BadText, BadTurning, PartyError

REFUSALS = (BadParty, BadRound, BadTurning, BadText)


class RefusalsTest(unittest.TestCase):

    def test_any_refusal_is_straight_under_value_error(self):
        self.assertEqual(PartyError.__bases__, (ValueError,))

    def test_each_refusal_is_straight_under_party_error(self):
        for refusal in REFUSALS:
            with self.subTest(refusal=refusal):
                self.assertEqual(refusal.__bases__, (PartyError,))

    def test_no_refusal_is_under_another(self):
        for one in REFUSALS:
            for other in REFUSALS:
                if one is not other:
                    self.assertFalse(issubclass(one, other))

    def test_each_is_defined_in_its_file(self):
        for refusal in (PartyError,) + REFUSALS:
            self.assertEqual(refusal.__module__, "newfaces.errors")
            self.assertIs(getattr(errors, refusal.__name__), refusal)

    def test_each_is_caught_as_a_refusal_and_as_a_value_error(self):
        for error in (BadParty("no"), BadRound(3), BadTurning("no"), BadText(4)):
            for kind in (PartyError, ValueError, error.__class__):
                with self.subTest(error=error, kind=kind), self.assertRaises(kind):
                    raise error

    def test_bad_round_carries_its_number(self):
        for number in (0, 1, 17):
            self.assertEqual(BadRound(number).number, number)
            self.assertIs(type(BadRound(number).number), int)

    def test_bad_text_carries_its_row(self):
        for row in (0, 1, 17):
            self.assertEqual(BadText(row).row, row)
            self.assertIs(type(BadText(row).row), int)

    def test_values_belong_to_each_object(self):
        first, second = BadRound(1), BadRound(2)
        self.assertEqual((first.number, second.number), (1, 2))
        one, other = BadText(5), BadText(6)
        self.assertEqual((one.row, other.row), (5, 6))
