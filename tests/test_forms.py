"""The plain forms of point [2] that the modules share."""

import unittest

from evenfriends.forms import are_numbers_below, are_unlike, is_ascending, is_count, is_word, word_at
from tests import support


class PlainForms(unittest.TestCase):
    def test_counts(self):
        for value in support.any_objects():
            self.assertIs(is_count(value), type(value) is int and value >= 0)

    def test_words(self):
        for value in support.any_objects():
            self.assertIs(is_word(value), support.is_word(value))

    def test_unlike_things(self):
        for things in [[], ["a"], ["a", "b"], [("a", "b"), ("a", "c")]]:
            self.assertIs(are_unlike(things), True)
        for things in [["a", "b", "a"], ["a", "a"], [("a", "b")] * 2]:
            self.assertIs(are_unlike(things), False)

    def test_ascending_things(self):
        for things in [[], ["a"], ["a", "b"], (0, 1, 2), [("a", "b"), ("a", "c")]]:
            self.assertIs(is_ascending(things), True)
        for things in [["b", "a"], ["a", "a"], (0, 2, 1), [("a", "c"), ("a", "b")]]:
            self.assertIs(is_ascending(things), False)

    def test_numbers_below(self):
        for value in support.any_objects() + [(0, 1), (0, 2), (2,), (1, 0), (1, 1), (0, True), [0, 1], (3,), (-1,)]:
            right = type(value) is tuple and all(type(one) is int and 0 <= one < 3 for one in value)
            self.assertIs(are_numbers_below(value, 3), right and list(value) == sorted(set(value)))

    def test_words_by_position(self):
        words = [word_at(at) for at in range(26 + 26 * 26 + 1)]
        self.assertEqual((words[0], words[25:28], words[51:53]), ("a", ["z", "aa", "ab"], ["az", "ba"]))
        self.assertEqual((words[-2:], len(set(words))), (["zz", "aaa"], len(words)))


if __name__ == "__main__":
    unittest.main()
