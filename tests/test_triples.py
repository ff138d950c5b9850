"""Points [17] to [22]: third people and triples."""

import itertools
import unittest

from evenfriends.companies import Company
from evenfriends.errors import InvalidCount, InvalidPair
from evenfriends.triples import (
    fork_number, forks, kind_numbers, kinds_moved, odd_friends, odd_pairs, odd_people, third_people, triple_numbers,
    triples_moved, triples_of,
)
from tests import support
from tests.plain import Plain

NINE = ["a", "b", "c", "d", "e", "f", "g", "h", "i"]
ALL_OF_NINE = list(itertools.combinations(NINE, 2))


class AllSmallCompanies(unittest.TestCase):
    def each(self):
        for company in support.small_companies():
            yield company, Plain(company)

    def test_third_people(self):
        for company, plain in self.each():
            for pair in plain.pairs:
                lots = [third_people(company, pair, kind) for kind in range(3)]
                self.assertEqual(lots, [plain.third(pair, kind) for kind in range(3)])
                self.assertEqual(kind_numbers(company, pair), [len(lot) for lot in lots])
                self.assertEqual(sorted(sum(lots, [])), [one for one in plain.people if one not in pair])

    def test_triples(self):
        for company, plain in self.each():
            self.assertEqual(triple_numbers(company), plain.numbers())
            for number in range(4):
                expected = [triple for triple in plain.triples if plain.friendships(triple) == number]
                self.assertEqual(triples_of(company, number), expected)

    def test_triples_moved(self):
        for company, plain in self.each():
            for pair in plain.pairs:
                behind = plain.turned(pair).numbers()
                self.assertEqual(triples_moved(company, pair), [new - old for new, old in zip(behind, plain.numbers())])

    def test_forks(self):
        for company, plain in self.each():
            many = 0
            for person in plain.people:
                expected = list(itertools.combinations(plain.circle(person), 2))
                self.assertEqual(forks(company, person), expected)
                many += len(expected)
            self.assertEqual(fork_number(company), many)
            self.assertEqual(many, plain.numbers()[2] + 3 * plain.numbers()[3])

    def test_odd_people(self):
        for company, plain in self.each():
            expected = [person for person in plain.people if len(plain.circle(person)) % 2]
            self.assertEqual(odd_people(company), expected)
            self.assertEqual(len(expected) % 2, 0)

    def test_kinds_moved(self):
        for company, plain in self.each():
            for pair in plain.pairs:
                behind = plain.turned(pair)
                expected = []
                for other in plain.pairs:
                    for person in plain.people:
                        if person not in other and plain.kind(other, person) != behind.kind(other, person):
                            expected.append((other, person, plain.kind(other, person), behind.kind(other, person)))
                self.assertEqual(kinds_moved(company, pair), sorted(expected))
                self.assertEqual(len(expected), 2 * (len(plain.people) - 2))

    def test_odd_pairs(self):
        for company, plain in self.each():
            for kind in range(3):
                expected = [pair for pair in plain.pairs if len(plain.third(pair, kind)) % 2]
                self.assertEqual(odd_pairs(company, kind), expected)
                for person in plain.people:
                    with_them = [one for one in plain.people if tuple(sorted([one, person])) in expected]
                    self.assertEqual(odd_friends(company, person, kind), with_them)

    def test_odd_friends_of_kind_one_are_the_other_parity(self):
        for company, plain in self.each():
            for person in plain.people:
                unlike = [
                    one for one in plain.people if (len(plain.circle(one)) + len(plain.circle(person))) % 2
                ]
                self.assertEqual(odd_friends(company, person, 1), unlike)


class Edges(unittest.TestCase):
    def test_one_person(self):
        one = Company(["a"], [])
        self.assertEqual([triple_numbers(one), fork_number(one)], [[0] * 4, 0])
        self.assertEqual([odd_people(one), forks(one, "a")], [[], []])
        self.assertEqual([triples_of(one, number) for number in range(4)], [[]] * 4)
        for kind in range(3):
            self.assertEqual((odd_pairs(one, kind), odd_friends(one, "a", kind)), ([], []))
        for function in [kind_numbers, triples_moved, kinds_moved]:
            raised = support.error_of(function, [one, ("a", "b")])
            self.assertEqual((type(raised), raised.value), (InvalidPair, ("a", "b")))

    def test_two_people(self):
        for friends in [[], [("a", "b")]]:
            two = Company(["a", "b"], friends)
            pair = ("a", "b")
            self.assertEqual([kind_numbers(two, pair), triples_moved(two, pair)], [[0] * 3, [0] * 4])
            self.assertEqual(kinds_moved(two, pair), [])
            self.assertEqual(odd_people(two), ["a", "b"] if friends else [])

    def test_nine_people_all_strangers(self):
        company = Company(NINE, [])
        self.assertEqual(triple_numbers(company), [84, 0, 0, 0])
        self.assertEqual(kind_numbers(company, ("a", "i")), [7, 0, 0])
        self.assertEqual(triples_moved(company, ("a", "i")), [-7, 7, 0, 0])
        self.assertEqual((fork_number(company), odd_people(company)), (0, []))
        self.assertEqual(odd_pairs(company, 0), ALL_OF_NINE)
        self.assertEqual(odd_pairs(company, 1) + odd_pairs(company, 2), [])

    def test_nine_people_all_friends(self):
        company = Company(NINE, ALL_OF_NINE)
        self.assertEqual(triple_numbers(company), [0, 0, 0, 84])
        self.assertEqual(kind_numbers(company, ("b", "c")), [0, 0, 7])
        self.assertEqual(triples_moved(company, ("b", "c")), [0, 0, 7, -7])
        self.assertEqual((fork_number(company), odd_people(company)), (9 * 28, []))
        self.assertEqual(triples_of(company, 3), list(itertools.combinations(NINE, 3)))
        self.assertEqual(odd_friends(company, "e", 2), ["a", "b", "c", "d", "f", "g", "h", "i"])
        self.assertEqual(kinds_moved(company, ("a", "b"))[0], (("a", "c"), "b", 2, 1))
        self.assertEqual(len(kinds_moved(company, ("a", "b"))), 14)

    def test_names_whose_order_is_not_that_of_their_lengths(self):
        company = Company(["b", "ab", "abc", "a"], [("a", "b"), ("ab", "abc"), ("abc", "b")])
        self.assertEqual(third_people(company, ("ab", "b"), 2), ["abc"])
        self.assertEqual(triples_of(company, 2), [("a", "abc", "b"), ("ab", "abc", "b")])
        self.assertEqual(forks(company, "b"), [("a", "abc")])

    def test_moved_numbers_are_whole_numbers(self):
        company = Company(["a", "b", "c"], [("a", "b")])
        for number in triples_moved(company, ("a", "c")) + kind_numbers(company, ("a", "c")) + triple_numbers(company):
            self.assertIs(type(number), int)
        for number in [one for row in kinds_moved(company, ("a", "b")) for one in row[2:]]:
            self.assertIs(type(number), int)

    def test_booleans_are_no_numbers(self):
        company = Company(["a", "b", "c"], [])
        for value in [True, False]:
            for function, args in [
                (third_people, [company, ("a", "b"), value]),
                (triples_of, [company, value]),
                (odd_pairs, [company, value]),
                (odd_friends, [company, "a", value]),
            ]:
                raised = support.error_of(function, args)
                self.assertIs(type(raised), InvalidCount)
                self.assertIs(raised.value, value)

    def test_numbers_beside_the_bounds(self):
        company = Company(["a", "b", "c"], [])
        self.assertEqual([triples_of(company, number) for number in range(4)], [[("a", "b", "c")], [], [], []])
        pairs = [("a", "b"), ("a", "c"), ("b", "c")]
        self.assertEqual([odd_pairs(company, kind) for kind in range(3)], [pairs, [], []])
        self.assertIs(type(support.error_of(triples_of, [company, 4])), InvalidCount)
        self.assertIs(type(support.error_of(odd_pairs, [company, 3])), InvalidCount)


if __name__ == "__main__":
    unittest.main()
