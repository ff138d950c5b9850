"""Points [36] to [42]: common friends even."""

import itertools
import random
import unittest

from evenfriends.companies import Company
from evenfriends.errors import InvalidCompanies
from evenfriends.evens import (
    always_and_never, even_mark, even_parting, even_road, fewest_evenly, grouped_evenly, is_even_road, is_least_evenly,
    is_lessening, joined_among, joined_evenly, least_evenly, lessening, odd_one,
)
from tests import support
from tests.plain import EVEN, Plain, are_joined, behind, classes_of, from_key, walked

NINE = ["a", "b", "c", "d", "e", "f", "g", "h", "i"]
PEOPLE = [tuple(NINE[:many]) for many in range(1, 6)]


def all_pairs(people):
    return list(itertools.combinations(people, 2))


def complete(people):
    return all_pairs(sorted(people))


def nearly_complete(many):
    """All nearly complete companies of so many people, each with its odd one."""
    people = NINE[:many]
    for odd in people:
        friends = complete(one for one in people if one != odd)
        yield odd, Company(people, friends)
        for other in people:
            if other != odd:
                yield odd, Company(people, friends + [tuple(sorted([odd, other]))])


def plain_odd_one(company):
    """The odd one as the words of [36] say it."""
    plain = Plain(company)
    if len(plain.people) < 4 or len(plain.people) % 2:
        return None
    for odd in plain.people:
        rest = [pair for pair in plain.pairs if odd not in pair]
        if all(plain.are(*pair) for pair in rest) and len(plain.circle(odd)) <= 1:
            return odd
    return None


def plain_mark(company):
    """The mark as the words of [37] say it."""
    plain = Plain(company)
    if not plain.let(EVEN):
        return ("lone",)
    if plain_odd_one(company) is not None:
        return ("nearly", plain_odd_one(company))
    return (["even", "odd"][plain.numbers()[3] % 2],)


def plain_fewest(company):
    """The fewest friendships as the words of [38] say it."""
    mark, many = plain_mark(company), len(company.people())
    if mark[0] == "nearly":
        return (many - 1) * (many - 2) // 2
    return {"lone": len(company.friends()), "even": 0, "odd": 3}[mark[0]]


def side_by_side(lots, chance):
    """A company of parts, each given by a number of people and friendships of places, with names in any order."""
    people = NINE[:sum(many for many, _ in lots)]
    names = chance.sample(people, len(people))
    friends, ahead = [], 0
    for many, pairs in lots:
        friends += [tuple(sorted([names[ahead + one], names[ahead + other]])) for one, other in pairs]
        ahead += many
    return Company(people, friends)


ONE = (1, [])
TRIANGLE = (3, all_pairs(range(3)))
BOW = (5, [(0, 1), (0, 2), (1, 2), (0, 3), (0, 4), (3, 4)])
FIVE = (5, all_pairs(range(5)))
SEVEN = (7, all_pairs(range(7)))
THREE_TRIANGLES = (7, [(0, at) for at in range(1, 7)] + [(1, 2), (3, 4), (5, 6)])
BOW_OF_FIVE = (7, all_pairs(range(5)) + [(0, 5), (0, 6), (5, 6)])
ALL_BUT_A_ROUND = (7, [pair for pair in all_pairs(range(7)) if pair not in [(0, 1), (1, 2), (2, 3), (0, 3)]])
LONE_PARTS = [ONE, TRIANGLE, BOW, FIVE, SEVEN, THREE_TRIANGLES, BOW_OF_FIVE, ALL_BUT_A_ROUND]


def of_lone_parts():
    """Companies of at most nine people whose parts are each lone by themselves: those without a plain lessening."""
    chance = random.Random(5)
    for size in range(1, 10):
        for lots in itertools.combinations_with_replacement(LONE_PARTS, size):
            if sum(many for many, _ in lots) <= 9:
                yield side_by_side(lots, chance)


def some_of_many(seed, many):
    """Companies of six to nine people: sparse, middling, dense, nearly all friends."""
    chance = random.Random(seed)
    for at in range(many):
        people = NINE[:chance.randint(6, 9)]
        share = [0.05, 0.2, 0.5, 0.8, 0.95, 1][at % 6]
        company = Company(people, [pair for pair in all_pairs(people) if chance.random() < share])
        yield behind(company, chance.sample(all_pairs(people), at % 3))


class Marks(unittest.TestCase):
    def test_marks_of_all_small_companies(self):
        for people in PEOPLE:
            for at, company in enumerate(support.all_companies(people)):
                if len(people) < 5 or at % 5 == 0:
                    self.assertEqual(even_mark(company), plain_mark(company))
                    self.assertEqual(odd_one(company), plain_odd_one(company))

    def test_nearly_complete_ones(self):
        for many in [4, 6, 8]:
            met = list(nearly_complete(many))
            self.assertEqual(len(met), many * many)
            for odd, company in met:
                self.assertEqual((odd_one(company), even_mark(company)), (odd, ("nearly", odd)))

    def test_not_quite_nearly_complete(self):
        for people in [NINE[:4], NINE[:6], NINE[:8]]:
            friends = complete(people[1:])
            self.assertEqual(odd_one(Company(people, friends)), "a")
            self.assertIs(odd_one(Company(people, friends + [("a", "b"), ("a", "c")])), None)
            self.assertIs(odd_one(Company(people, friends[1:])), None)
            self.assertIs(odd_one(Company(people, complete(people))), None)
        for people in [["a"], ["a", "b"], NINE[:3], NINE[:5], NINE[:7], NINE]:
            self.assertIs(odd_one(Company(people, complete(people[1:]))), None)

    def test_one_and_two_people(self):
        self.assertEqual(even_mark(Company(["a"], [])), ("lone",))
        for friends in [[], [("a", "b")]]:
            self.assertEqual(even_mark(Company(["a", "b"], friends)), ("even",))

    def test_marks_of_many(self):
        for company in itertools.chain(some_of_many(1, 120), of_lone_parts()):
            self.assertEqual(even_mark(company), plain_mark(company))


class Joined(unittest.TestCase):
    def test_all_classes_of_small_companies(self):
        for people in PEOPLE:
            lots = classes_of(people, EVEN)
            first = [from_key((people, lot[0])) for lot in lots]
            for at, lot in enumerate(lots):
                for friends in lot[::1 + len(lot) // 30]:
                    company = from_key((people, friends))
                    for place, other in enumerate(first):
                        joined = at == place
                        self.assertIs(joined_evenly(company, other), joined)
                        parting = None if joined else (plain_mark(company), plain_mark(other))
                        self.assertEqual(even_parting(company, other), parting)

    def test_the_numbers_of_classes(self):
        self.assertEqual([len(classes_of(people, EVEN)) for people in PEOPLE], [1, 1, 2, 5, 18])

    def test_lone_ones_are_joined_with_themselves_alone(self):
        bow = side_by_side([BOW], random.Random(1))
        for other in [side_by_side([BOW], random.Random(seed)) for seed in range(2, 8)]:
            self.assertIs(joined_evenly(bow, other), bow == other)
            if bow != other:
                self.assertEqual(even_parting(bow, other), (("lone",), ("lone",)))
        self.assertIs(even_parting(bow, bow), None)

    def test_joined_among_and_grouped(self):
        for people in PEOPLE[:4]:
            lot = list(support.all_companies(people))
            chance = random.Random(len(people))
            for _ in range(40):
                some = [chance.choice(lot) for _ in range(chance.randint(1, 4))]
                one = chance.choice(lot)
                expected = [at for at, other in enumerate(some) if are_joined(one, other, EVEN)]
                self.assertEqual(joined_among(one, some), expected)
                groups = {tuple(at for at, other in enumerate(some) if are_joined(first, other, EVEN)) for first in some}
                self.assertEqual(grouped_evenly(some), [list(group) for group in sorted(groups)])

    def test_lists_of_companies(self):
        one, other = Company(["a"], []), Company(["a", "b"], [])
        self.assertEqual(joined_among(one, []), [])
        self.assertEqual(grouped_evenly([other, other]), [[0, 1]])
        for function, args, wrong in [
            (joined_among, [one, [one, other]], 1), (joined_among, [one, [other, other]], 1), (grouped_evenly, [[]], 0),
            (grouped_evenly, [[one, other]], 0), (grouped_evenly, [[one, None]], 0), (grouped_evenly, [(one, one)], 0),
        ]:
            raised = support.error_of(function, args)
            self.assertIs(type(raised), InvalidCompanies)
            self.assertIs(raised.value, args[wrong])


class Least(unittest.TestCase):
    def test_all_classes_of_small_companies(self):
        for people in PEOPLE:
            for lot in classes_of(people, EVEN):
                fewest = min(len(friends) for friends in lot)
                always = [pair for pair in all_pairs(people) if all(pair in friends for friends in lot)]
                never = [pair for pair in all_pairs(people) if not any(pair in friends for friends in lot)]
                for friends in lot[::1 + len(lot) // 20]:
                    company = from_key((people, friends))
                    self.assertEqual(fewest_evenly(company), fewest)
                    self.assertEqual(always_and_never(company), (always, never))
                    least = least_evenly(company)
                    self.assertIn(tuple(least.friends()), lot)
                    self.assertEqual(len(least.friends()), fewest)
                    self.assertIs(is_least_evenly(company, least), True)

    def test_is_least_of_every_company(self):
        for people in PEOPLE[:4]:
            for lot in classes_of(people, EVEN):
                fewest = min(len(friends) for friends in lot)
                company = from_key((people, lot[-1]))
                for other in support.all_companies(people):
                    friends = tuple(other.friends())
                    self.assertIs(is_least_evenly(company, other), friends in lot and len(friends) == fewest)
                self.assertIs(is_least_evenly(company, Company(["x", *people], [])), False)

    def test_of_many(self):
        for company in itertools.chain(some_of_many(2, 120), of_lone_parts()):
            least = least_evenly(company)
            self.assertEqual(fewest_evenly(company), plain_fewest(company))
            self.assertEqual(len(least.friends()), plain_fewest(company))
            self.assertIs(is_least_evenly(company, least), True)
            self.assertTrue(least == company or plain_mark(least) == plain_mark(company) != ("lone",))

    def test_nearly_complete_ones(self):
        for many in [4, 6, 8]:
            for odd, company in nearly_complete(many):
                rest = [pair for pair in company.friends() if odd not in pair]
                self.assertEqual(least_evenly(company), Company(company.people(), rest))
                self.assertEqual(always_and_never(company), (rest, []))

    def test_lone_ones(self):
        for company in [Company(["a"], []), side_by_side([SEVEN], random.Random(1))]:
            friends = company.friends()
            strangers = [pair for pair in all_pairs(company.people()) if pair not in friends]
            self.assertEqual(always_and_never(company), (friends, strangers))
            self.assertEqual(least_evenly(company), company)


class Lessenings(unittest.TestCase):
    def check(self, company):
        road = lessening(company)
        if len(company.friends()) == plain_fewest(company):
            self.assertIs(road, None)
        else:
            self.assertLessEqual(len(road), 9)
            self.assertLess(len(walked(company, EVEN, road).friends()), len(company.friends()))
            self.assertIs(is_lessening(company, road), True)
            self.assertIs(is_lessening(company, road[:-1] + road[:1]), walked_less(company, road[:-1] + road[:1]))
        self.assertIs(is_lessening(company, None), False)
        self.assertIs(is_lessening(company, []), False)

    def test_all_small_companies(self):
        for people in PEOPLE[:4]:
            for company in support.all_companies(people):
                self.check(company)
        for at, company in enumerate(support.all_companies(PEOPLE[4])):
            if at % 4 == 0:
                self.check(company)

    def test_parts_that_are_lone_by_themselves(self):
        for part in LONE_PARTS:
            self.assertEqual(plain_mark(side_by_side([part], random.Random(1))), ("lone",))
        met = list(of_lone_parts())
        self.assertGreater(len(met), 30)
        for company in met:
            self.check(company)

    def test_of_many(self):
        for company in some_of_many(3, 200):
            self.check(company)
        for size in [4, 6, 8]:
            for _, company in nearly_complete(size):
                self.check(company)

    def test_of_whatever_length(self):
        square = Company(["a", "b", "c", "d"], [("a", "b"), ("a", "d"), ("b", "c"), ("c", "d")])
        self.assertIs(is_lessening(square, [("a", "c")] * 20 + [("a", "b")]), True)
        self.assertIs(is_lessening(square, [("a", "c")] * 20), False)
        self.assertIs(is_lessening(square, [("a", "c")]), False)
        for value in support.any_objects():
            if value != [("a", "b")]:
                self.assertIs(is_lessening(square, value), False)


def walked_less(company, road):
    end = walked(company, EVEN, road)
    return end is not None and len(end.friends()) < len(company.friends())


class Roads(unittest.TestCase):
    def check(self, one, other):
        road = even_road(one, other)
        joined = one == other or plain_mark(one) == plain_mark(other) != ("lone",)
        if joined:
            self.assertLessEqual(len(road), 1000)
            self.assertEqual(walked(one, EVEN, road), other)
            self.assertIs(is_even_road(one, other, road), True)
            self.assertIs(is_even_road(one, other, road + road[-1:]), road == [])
        else:
            self.assertIs(road, None)
        self.assertIs(is_even_road(one, other, None), False)
        return joined

    def test_small_companies(self):
        chance = random.Random(4)
        for people in PEOPLE:
            lot = list(support.all_companies(people))
            for one in lot[::1 + len(lot) // 40]:
                for other in chance.sample(lot, min(8, len(lot))) + [one]:
                    self.check(one, other)

    def test_nine_people(self):
        lot = [company for company in some_of_many(6, 400) if len(company.people()) == 9]
        self.assertGreater(sum(self.check(one, other) for one, other in zip(lot, lot[1:])), 20)

    def test_nearly_complete_ones(self):
        for many in [4, 6, 8]:
            met = [company for _, company in nearly_complete(many)]
            for one in met[:many + 2]:
                for other in met[:many]:
                    self.check(one, other)

    def test_triangles_at_unlike_places(self):
        for many in [5, 6, 9]:
            triples = list(itertools.combinations(NINE[:many], 3))
            one = Company(NINE[:many], complete(triples[0]))
            for triple in triples:
                self.assertIs(self.check(one, Company(NINE[:many], complete(triple))), True)

    def test_parts_that_are_lone_by_themselves(self):
        met = [company for company in of_lone_parts() if len(company.people()) in (8, 9)]
        for one, other in itertools.product(met, met):
            if one.people() == other.people():
                self.check(one, other)

    def test_is_even_road_of_whatever_length(self):
        none, one = Company(["a", "b", "c"], []), Company(["a", "b", "c"], [("a", "b")])
        self.assertIs(is_even_road(none, one, [("a", "b")] * 399), True)
        self.assertIs(is_even_road(none, one, [("a", "b")] * 400), False)
        self.assertIs(is_even_road(none, none, []), True)
        self.assertIs(is_even_road(none, one, [("a", "b"), ("a", "c"), ("b", "c")]), False)


if __name__ == "__main__":
    unittest.main()
