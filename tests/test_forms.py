"""The plain forms of point [2] that the modules share."""

import unittest

from evenfriends.forms import are_unlike, is_count, is_word
from tests import support


class PlainForms(unittest.TestCase):
    def test_counts(self):
        for value in support.any_objects():
            self.assertIs(is_count(value), type(value) is int and value >= 0)

    def test_words(self):
        for value in support.any_objects():
            self.assertIs(is_word(value), support.is_word(value))

    def test_unlike_things(self):
        for things in [[], ["a"], ["a", "b"], [("a", "b"), ("a", "c")]]:
            self.assertIs(are_unlike(things), True)
        for things in [["a", "b", "a"], ["a", "a"], [("a", "b")] * 2]:
            self.assertIs(are_unlike(things), False)


if __name__ == "__main__":
    unittest.main()
