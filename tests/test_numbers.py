"""Points [72] to [78]: numbers of families, of companies, of lone ones and of classes."""

import itertools
import math
import unittest

from evenfriends.companies import Company
from evenfriends.errors import InvalidCount, InvalidManner
from evenfriends.numbers import (
    class_count, class_sizes, even_by_rank, even_count, even_families, is_wholly_even, is_wholly_odd, joined_tuples,
    lone_connected, lone_count, odd_count, rank_of, tie_class, tie_sizes, untied_companies,
)
from tests import plain, support
from tests.plain import EVEN, MANNERS, ODD, Plain, TIES_EVEN, TIES_ODD

NINE = ["a", "b", "c", "d", "e", "f", "g", "h", "i"]


def companies(many):
    return support.all_companies(NINE[:many])


def families(many):
    """All even closed families of so many people, told by bits, by their sizes; grown list by list."""
    lists = range(1 << many)
    layer, found = {frozenset([0])}, []
    while layer:
        found.append(layer)
        newer = set()
        for family in layer:
            for one in lists:
                bigger = family | {one ^ other for other in family}
                if one not in family and is_even_family(bigger):
                    newer.add(frozenset(bigger))
        layer = newer
    return [len(layer) for layer in found]


def is_even_family(family):
    return not any(bin(one & other).count("1") % 2 for one in family for other in family)


def plain_rank(company):
    """By the words: the greatest number of people in each list of whom somebody has an odd number of friends."""
    told = Plain(company)
    for many in range(len(told.people), 0, -1):
        for lot in itertools.combinations(told.people, many):
            if all(has_odd(told, some) for size in range(1, many + 1) for some in itertools.combinations(lot, size)):
                return many
    return 0


def has_odd(told, some):
    return any(sum(told.are(person, other) for other in some) % 2 for person in told.people)


def is_whole(company, rest):
    told = Plain(company)
    if any(len(told.circle(person)) % 2 != rest for person in told.people):
        return False
    return not any(len(told.third(pair, 2)) % 2 for pair in told.pairs)


def ways_to_part(many):
    """All lists of sizes, descending, that parts of so many people have, each with the number of ways."""
    def split(left, most):
        if left == 0:
            yield []
        for size in range(min(left, most), 0, -1):
            for rest in split(left - size, size):
                yield [size] + rest

    for sizes in split(many, many):
        ways = math.factorial(many)
        for size in sizes:
            ways //= math.factorial(size)
        for size in set(sizes):
            ways //= math.factorial(sizes.count(size))
        yield sizes, ways


class Families(unittest.TestCase):
    def test_even_families_are_counted(self):
        for many in range(1, 7):
            found = families(many)
            for size in range(8):
                self.assertEqual(even_families(many, size), found[size] if size < len(found) else 0, (many, size))

    def test_great_ones(self):
        for many in range(1, 15):
            self.assertEqual(even_families(many, 0), 1)
            self.assertEqual(even_families(many, 1), 2 ** (many - 1) - 1)
            self.assertEqual(even_families(many, many // 2 + 1), 0)
            self.assertEqual(even_families(many, 60), 0)
            self.assertGreater(even_families(many, (many - 1) // 2 if many % 2 else many // 2), 0)
        # The greatest families: for an even number of people they all have the list of all people.
        self.assertEqual(even_families(8, 4), 135)
        self.assertEqual(even_families(14, 7), math.prod(2 ** at + 1 for at in range(1, 7)))
        self.assertEqual(even_families(13, 6), math.prod(2 ** at + 1 for at in range(1, 7)))

    def test_untied_companies_are_counted(self):
        self.assertEqual(untied_companies(0), 1)
        for many in range(1, 6):
            self.assertEqual(untied_companies(many), sum(plain_rank(one) == many for one in companies(many)), many)
        self.assertEqual([untied_companies(size) for size in [6, 7, 8, 13]], [13888, 0, 112881664, 0])
        # Each company of so many people is an untied one among some of its labels: [72] and [74] counted otherwise.
        for many in range(1, 9):
            total = sum(forms(many, rank) * untied_companies(rank) for rank in range(many + 1))
            self.assertEqual(total, 2 ** (many * (many - 1) // 2))
        self.assertEqual(untied_companies(59), 0)
        self.assertEqual(untied_companies(60) % 2 ** 870, 0)

    def test_wrong(self):
        for call, wrong in [
            (lambda: even_families(0, None), 0), (lambda: even_families(True, 1), True), (lambda: even_families(3, -1), -1),
            (lambda: even_families(3, False), False), (lambda: untied_companies(-1), -1),
        ]:
            with self.assertRaises(InvalidCount) as caught:
                call()
            self.assertIs(caught.exception.value, wrong)


def forms(many, rank):
    """How many spaces of a size all lists of so many people have."""
    above = math.prod(2 ** (many - at) - 1 for at in range(rank))
    return above // math.prod(2 ** (at + 1) - 1 for at in range(rank))


class Wholes(unittest.TestCase):
    def test_wholly_even_and_odd_and_ranks(self):
        met = [0, 0]
        for company in support.small_companies():
            self.assertIs(is_wholly_even(company), is_whole(company, 0))
            self.assertIs(is_wholly_odd(company), is_whole(company, 1))
            self.assertEqual(rank_of(company), plain_rank(company))
            met[0] += is_wholly_even(company)
            met[1] += is_wholly_odd(company)
        self.assertTrue(all(number > 4 for number in met), met)

    def test_great_ranks(self):
        for many in range(1, 10):
            everybody = Company(NINE[:many], list(itertools.combinations(NINE[:many], 2)))
            self.assertEqual(rank_of(everybody), many - many % 2)
            self.assertIs(is_wholly_even(everybody), many == 1)
            self.assertIs(is_wholly_odd(everybody), many % 2 == 0)
        star = Company(NINE, [("a", other) for other in NINE[1:]])
        self.assertEqual(rank_of(star), 2)

    def test_by_rank(self):
        for many in range(1, 6):
            whole = [one for one in companies(many) if is_whole(one, 0)]
            ranks = sorted(plain_rank(one) for one in whole)
            told = even_by_rank(many)
            self.assertEqual(list(told.items()), [(rank, ranks.count(rank)) for rank in sorted(set(ranks))])
            self.assertEqual(even_count(many), len(whole))
            self.assertEqual(odd_count(many), sum(is_whole(one, 1) for one in companies(many)))

    def test_by_the_sums(self):
        for many in range(1, 15):
            told = even_by_rank(many)
            ranks = range(many + 1)
            sums = [(rank, even_families(many, rank) * untied_companies(rank)) for rank in ranks]
            self.assertEqual(list(told.items()), [row for row in sums if row[1] != 0])
            self.assertEqual(even_count(many), sum(told.values()))
            self.assertEqual(odd_count(many), even_count(many) if many % 2 == 0 else 0)
        self.assertEqual([even_count(many) for many in range(1, 10)], [1, 1, 1, 4, 16, 76, 316, 5104, 69616])


class LoneOnes(unittest.TestCase):
    def test_counted_by_plain_search(self):
        for many in range(1, 6):
            for manner in MANNERS:
                if many < 5 or manner in MANNERS[::5]:
                    number = sum(plain.let_at(plain.key(one), manner) == () for one in companies(many))
                    self.assertEqual(lone_count(manner, many), number, (manner, many))

    def test_great_ones_by_the_words(self):
        for many in range(3, 15):
            half = sum(math.comb(many, part) * even(part) * odd(many - part) for part in range(many + 1))
            start = 2 ** ((many - 1) * (many - 2) // 2)
            for manner in MANNERS:
                (kinds, word), _ = plain.real(manner, many)
                told = {
                    ((2,), "even"): even_count(many) if many % 2 else 0, ((2,), "odd"): half, ((1,), "even"): 0,
                    ((1,), "odd"): start if many % 2 else 2 * start, ((), "even"): 0,
                    ((), "odd"): 2 ** (many * (many - 1) // 2),
                }[kinds, word]
                self.assertEqual(lone_count(manner, many), told, (manner, many))

    def test_of_one_part(self):
        for many in range(1, 6):
            whole = [one for one in companies(many) if len(Plain(one).parts()) == 1]
            number = sum(plain.let_at(plain.key(one), ODD) == () for one in whole)
            self.assertEqual(lone_connected(many), number, many)
        for many in range(1, 15):
            parted = sum(ways * math.prod(lone_connected(size) for size in sizes) for sizes, ways in ways_to_part(many))
            self.assertEqual(lone_count(ODD, many), parted, many)


def even(many):
    return even_count(many) if many else 1


def odd(many):
    return odd_count(many) if many else 1


class Classes(unittest.TestCase):
    def test_counted_by_plain_search(self):
        for many in range(1, 6):
            for manner in MANNERS if many < 5 else [EVEN, ODD, TIES_EVEN, TIES_ODD, ((0, 1), "even"), ((0, 2), "odd")]:
                sizes = [len(lot) for lot in plain.classes_of(tuple(NINE[:many]), manner)]
                self.assertEqual(class_count(manner, many), len(sizes), (manner, many))
                told = class_sizes(manner, many)
                self.assertEqual(list(told.items()), [(size, sizes.count(size)) for size in sorted(set(sizes))])
                self.assertEqual(joined_tuples(manner, many), sum(size * size for size in sizes))

    def test_all_manners_of_five_people_fit(self):
        for manner in MANNERS:
            told = class_sizes(manner, 5)
            self.assertEqual(sum(told.values()), class_count(manner, 5))
            self.assertEqual(sum(size * number for size, number in told.items()), 1024)
            self.assertEqual(joined_tuples(manner, 5), sum(size * size * number for size, number in told.items()))
            self.assertGreaterEqual(told.get(1, 0), lone_count(manner, 5))

    def test_great_ones_by_the_words(self):
        for many in range(5, 15):
            evens = 2 + (lone_count(EVEN, many) if many % 2 else many)
            product = 0
            for sizes, ways in ways_to_part(many):
                product += ways * math.prod([0, 1, 1, 1, 5][size] if size < 5 else 2 + lone_connected(size) for size in sizes)
            ties = lone_count(TIES_ODD, many) + len([odd for odd in range(2, many) if odd % 2 == 0])
            for manner in MANNERS:
                told = {
                    ((2,), "even"): evens, ((2,), "odd"): product, ((1,), "even"): 2, ((1,), "odd"): ties,
                    ((), "even"): 1, ((), "odd"): 2 ** (many * (many - 1) // 2),
                }[plain.real(manner, many)[0]]
                self.assertEqual(class_count(manner, many), told, (manner, many))


class Ties(unittest.TestCase):
    def test_companies_by_their_odd_people(self):
        for many in range(1, 6):
            numbers = [len(Plain(one).odd_people()) for one in companies(many)]
            for odd_number in range(many + 1):
                self.assertEqual(tie_class(many, odd_number), numbers.count(odd_number))

    def test_great_ones(self):
        for many in range(1, 15):
            lot = [tie_class(many, odd_number) for odd_number in range(many + 1)]
            self.assertEqual(sum(lot), 2 ** (many * (many - 1) // 2))
            for odd_number, told in enumerate(lot):
                start = 2 ** ((many - 1) * (many - 2) // 2)
                self.assertEqual(told, 0 if odd_number % 2 else math.comb(many, odd_number) * start)

    def test_more_than_there_are(self):
        for many, wrong in [(3, 4), (1, 2), (14, 15), (5, 60), (5, -1), (5, True)]:
            with self.assertRaises(InvalidCount) as caught:
                tie_class(many, wrong)
            self.assertIs(caught.exception.value, wrong)

    def test_sizes(self):
        manners = [TIES_EVEN, TIES_ODD, ((0, 2), "even"), ((0, 2), "odd")]
        for many in range(1, 6):
            for manner in manners:
                self.assertEqual(list(tie_sizes(manner, many).items()), list(class_sizes(manner, many).items()))

    def test_great_sizes(self):
        for many in range(3, 15):
            total = 2 ** (many * (many - 1) // 2)
            found = sorted([1] * lone_count(TIES_ODD, many) if many < 7 else [])
            found += [tie_class(many, odd_number) for odd_number in range(2, many, 2)]
            for manner in [TIES_EVEN, TIES_ODD, ((0, 2), "even"), ((0, 2), "odd")]:
                told = tie_sizes(manner, many)
                self.assertEqual(list(told), sorted(told))
                self.assertEqual(sum(size * number for size, number in told.items()), total)
                self.assertEqual(sum(told.values()), class_count(manner, many))
                if plain.real(manner, many)[0] == TIES_EVEN:
                    self.assertEqual(told, {total // 2: 2})
                elif many < 7:
                    self.assertEqual(told, {size: found.count(size) for size in sorted(found)})
        self.assertEqual(tie_sizes(TIES_ODD, 6), {1: 2048, 15360: 2})

    def test_other_manners_are_none(self):
        for manner in MANNERS:
            if manner[0] not in [(1,), (0, 2)]:
                for many in [1, 2, 5, None]:
                    with self.assertRaises(InvalidManner) as caught:
                        tie_sizes(manner, many)
                    self.assertIs(caught.exception.value, manner)


if __name__ == "__main__":
    unittest.main()
