"""Point [5]: the error classes."""

import unittest

from evenfriends import errors
from evenfriends.errors import FriendError, NothingToRedo, NothingToUndo
from tests import support

WITH_FIELD = [
    "InvalidPerson", "InvalidPeople", "InvalidPair", "InvalidPairs", "InvalidCompany", "InvalidCompanies",
    "InvalidChange",
    "InvalidChanges", "InvalidNames", "InvalidManner", "InvalidManners", "InvalidTally", "InvalidRoad", "InvalidLabels",
    "InvalidWishes", "InvalidCount", "InvalidTable", "InvalidClub", "InvalidPlace", "InvalidHouse", "InvalidSpot",
    "InvalidScript", "InvalidText", "InvalidLog", "Unlike", "Apart", "Refused",
]
WITHOUT = ["NothingToUndo", "NothingToRedo"]


class Errors(unittest.TestCase):
    def test_what_they_are_derived_from(self):
        self.assertTrue(issubclass(FriendError, ValueError))
        for name in WITH_FIELD + WITHOUT:
            kind = getattr(errors, name)
            self.assertTrue(issubclass(kind, FriendError), name)
            self.assertEqual(kind.__name__, name)
            self.assertEqual(kind.__module__, "evenfriends.errors")

    def test_none_is_derived_from_another(self):
        kinds = [getattr(errors, name) for name in WITH_FIELD + WITHOUT]
        self.assertEqual(len(kinds), len(set(kinds)))
        for one in kinds:
            for other in kinds:
                self.assertEqual(issubclass(one, other), one is other)
            self.assertEqual(one.__bases__, (FriendError,))

    def test_a_field_holds_any_object(self):
        for name in WITH_FIELD:
            kind = getattr(errors, name)
            for value in support.any_objects():
                self.assertIs(kind(value).value, value)
                self.assertIs(kind(value=value).value, value)
            self.assertIs(kind().value, None)

    def test_fields_of_two_errors_are_their_own(self):
        one, other = errors.Refused([1]), errors.Refused([2])
        self.assertEqual((one.value, other.value), ([1], [2]))

    def test_those_without_a_field(self):
        for kind in [FriendError, NothingToUndo, NothingToRedo]:
            self.assertFalse(hasattr(kind(), "value"))
            self.assertIsInstance(kind(), FriendError)

    def test_they_can_be_raised_and_caught(self):
        for name in WITH_FIELD + WITHOUT:
            kind = getattr(errors, name)
            for caught in [kind, FriendError, ValueError]:
                with self.assertRaises(caught) as held:
                    raise kind()
                self.assertIs(type(held.exception), kind)


if __name__ == "__main__":
    unittest.main()
