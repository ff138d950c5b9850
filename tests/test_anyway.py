"""Points [57] to [63]: any manner."""

import itertools
import random
import unittest

from evenfriends.anyway import (
    class_by_deeds, class_of, deeds_to_friends, farthest_in_class, fewest_deeds, is_road_to_friends, is_shortest_road,
    is_why_apart, joined, road_between, road_to_friends, shared_class, shortest_road, why_apart,
)
from evenfriends.companies import Company, opposite
from tests import support
from tests.plain import EVEN, MANNERS, ODD, Plain, TIES_EVEN, TIES_ODD, are_joined, away_from, behind, real, walked

NINE = ["a", "b", "c", "d", "e", "f", "g", "h", "i"]
WORDS = ["lone", "complete", "parts", "lone part", "odd people", "count"]
COUNTS = {EVEN: ((3,), False), TIES_EVEN: ((2, 3), False), TIES_ODD: ((2, 3), True), ((), "odd"): ((), True)}


def all_pairs(people):
    return list(itertools.combinations(sorted(people), 2))


def is_nearly_complete(company):
    plain = Plain(company)
    if len(plain.people) < 4 or len(plain.people) % 2:
        return False
    return any(
        len(plain.circle(odd)) <= 1 and all(plain.are(*pair) for pair in plain.pairs if odd not in pair)
        for odd in plain.people
    )


def plain_words(one, other, manner):
    """The words of [59] that hold of two companies that are not joined."""
    manner, is_opposite = real(manner, len(one.people()))
    if is_opposite:
        one, other = opposite(one), opposite(other)
    first, second = Plain(one), Plain(other)
    shared = [part for part in first.parts() if part in second.parts()]
    cuts = [(first.cut(part), second.cut(part)) for part in shared]
    found = []
    if not first.let(manner) or not second.let(manner):
        found.append("lone")
    if manner == EVEN and (is_nearly_complete(one) or is_nearly_complete(other)):
        found.append("complete")
    if manner == ODD and first.parts() != second.parts():
        found.append("parts")
    if manner == ODD and any(a.friends != b.friends and not (a.let(ODD) and b.let(ODD)) for a, b in cuts):
        found.append("lone part")
    if manner == TIES_ODD and len(first.odd_people()) != len(second.odd_people()):
        found.append("odd people")
    if manner == ODD:
        if any(a.tallied(((3,), True)) != b.tallied(((3,), True)) for a, b in cuts):
            found.append("count")
    elif first.tallied(COUNTS[manner]) != second.tallied(COUNTS[manner]):
        found.append("count")
    return found


def some_pairs(seed, size, many):
    """Some tuples of two companies of so many people, each company of two shares of friends."""
    chance = random.Random(seed)
    pairs = all_pairs(NINE[:size])
    for _ in range(many):
        shares = [chance.choice([0, 0.1, 0.3, 0.5, 0.7, 0.9, 1]) for _ in range(2)]
        yield tuple(Company(NINE[:size], [one for one in pairs if chance.random() < share]) for share in shares)


def companies_to(many, step=1):
    for size in range(1, many + 1):
        yield from itertools.islice(support.all_companies(NINE[:size]), 0, None, step if size > 3 else 1)


class Joined(unittest.TestCase):
    def check(self, one, other, manner, expected):
        self.assertIs(joined(one, other, manner), expected, (one.friends(), other.friends(), manner))
        road = road_between(one, other, manner)
        if expected:
            self.assertEqual(walked(one, manner, road), other)
            if Plain(one).let(manner) == Plain(one).pairs and real(manner, len(one.people()))[0][0] == ():
                self.assertLessEqual(len(road), len(Plain(one).pairs))
        else:
            self.assertIs(road, None)
        return road

    def test_all_of_three_under_all_manners(self):
        for size in range(1, 4):
            lot = list(support.all_companies(NINE[:size]))
            for one, other in itertools.product(lot, lot):
                for manner in MANNERS:
                    self.check(one, other, manner, are_joined(one, other, manner))

    def test_four_and_five_under_all_manners(self):
        for size, many in [(4, 70), (5, 45)]:
            for one, other in some_pairs(size, size, many):
                for manner in MANNERS:
                    self.check(one, other, manner, are_joined(one, other, manner))

    def test_nine_under_all_manners(self):
        """Companies joined with one another by deeds that were walked, and how long the roads may be."""
        chance = random.Random(1)
        for size in [6, 7, 8, 9]:
            for one, _ in some_pairs(size, size, 4):
                for manner in MANNERS:
                    plain = Plain(one)
                    for _ in range(30):
                        let = plain.let(manner)
                        plain = plain.turned(chance.choice(let)) if let else plain
                    kinds, word = real(manner, size)[0]
                    most = {(): size * (size - 1) // 2, (1,): 5 * size * (size - 1), (2,): 1000 if word == "even" else 4000}
                    self.assertLessEqual(len(self.check(one, plain.company(), manner, True)), most[kinds])

    def test_manners_that_let_all_or_none(self):
        for one, other in some_pairs(2, 9, 10):
            for manner in [((), "even"), ((0, 1, 2), "odd")]:
                self.assertEqual(sorted(self.check(one, other, manner, True)), sorted(set(one.friends()) ^ set(other.friends())))
            for manner in [((), "odd"), ((0, 1, 2), "even")]:
                self.check(one, other, manner, one == other)
                self.assertEqual(self.check(one, one, manner, True), [])

    def test_two_people_where_all_is_let(self):
        one, other = Company(["a", "b"], []), Company(["a", "b"], [("a", "b")])
        for kinds, word in MANNERS:
            for first, second in itertools.product([one, other], repeat=2):
                road = self.check(first, second, (kinds, word), word == "even" or first == second)
                self.assertLessEqual(len(road or []), 1)


class WhyApart(unittest.TestCase):
    def check(self, one, other, manner, are):
        found = plain_words(one, other, manner) if not are else []
        expected = None if are else ([word for word in WORDS[:-1] if word in found] + ["count"])[0]
        self.assertEqual(why_apart(one, other, manner), expected)
        if expected is not None:
            self.assertIn(expected, found)
        for word in WORDS:
            self.assertIs(is_why_apart(one, other, manner, word), word in found)
        self.assertIs(is_why_apart(one, other, manner, None), False)
        return expected

    def test_all_of_three(self):
        for size in range(1, 4):
            lot = list(support.all_companies(NINE[:size]))
            for one, other in itertools.product(lot, lot):
                for manner in MANNERS:
                    self.check(one, other, manner, are_joined(one, other, manner))

    def test_four_and_five(self):
        met = []
        for size, many in [(4, 110), (5, 60)]:
            for one, other in some_pairs(size + 10, size, many):
                for manner in MANNERS:
                    met.append(self.check(one, other, manner, are_joined(one, other, manner)))
        # A lone part beside one that is not takes more people.
        self.assertEqual(set(met), {None, *WORDS} - {"lone part"})

    def test_many(self):
        met = []
        for size in [6, 8, 9]:
            for one, other in some_pairs(size + 20, size, 15):
                for manner in MANNERS:
                    met.append(self.check(one, other, manner, joined(one, other, manner)))
        self.assertGreater(len(set(met)), 4)

    def test_each_word(self):
        near = Company(NINE[:6], all_pairs(NINE[1:6]))
        none = Company(NINE[:6], [])
        self.assertEqual(why_apart(near, none, EVEN), "complete")
        self.assertIs(is_why_apart(none, near, EVEN, "complete"), True)
        square, path = [("a", "b"), ("a", "d"), ("b", "c"), ("c", "d")], [("e", "f"), ("f", "g")]
        star = [("a", "b"), ("a", "c"), ("a", "d")]
        one, other = Company(NINE[:7], square + path), Company(NINE[:7], star + path)
        self.assertEqual(why_apart(one, other, ODD), "lone part")
        self.assertEqual(why_apart(one, Company(NINE[:7], square + path[1:]), ODD), "lone")
        self.assertEqual(why_apart(other, Company(NINE[:7], star + path + [("d", "e")]), ODD), "parts")
        self.assertEqual(why_apart(Company(NINE, [("a", "b")]), Company(NINE, [("a", "b"), ("c", "d")]), TIES_ODD), "odd people")
        self.assertEqual(why_apart(none, Company(NINE[:6], [("a", "b"), ("a", "c")]), TIES_EVEN), "count")
        # What is told for a word may hold although another word comes first.
        many = Company(NINE[:7], star + [("e", "f")])
        self.assertEqual(why_apart(one, many, ODD), "parts")
        self.assertIs(is_why_apart(one, many, ODD, "lone part"), True)

    def test_other_objects_are_no_words(self):
        none, triangle = Company(NINE[:3], []), Company(NINE[:3], all_pairs(NINE[:3]))
        for value in support.any_objects() + ["Lone", "", "lone ", ["lone"], ("lone",), {"lone": True}]:
            expected = type(value) is str and value in ["lone", "count"]
            self.assertIs(is_why_apart(none, triangle, EVEN, value), expected)
            self.assertIs(is_why_apart(none, none, EVEN, value), False)


class Fewest(unittest.TestCase):
    def test_fewest_deeds(self):
        for size, many in [(1, 1), (2, 6), (3, 20), (4, 40), (5, 12)]:
            for one, other in some_pairs(size + 30, size, many):
                for manner in MANNERS:
                    far = away_from(one, manner).get(tuple(other.friends()))
                    self.assertEqual(fewest_deeds(one, other, manner), far)
                    road = shortest_road(one, other, manner)
                    if far is None:
                        self.assertIs(road, None)
                    else:
                        self.assertEqual((len(road), walked(one, manner, road)), (far, other))
                        self.assertIs(is_shortest_road(one, other, manner, road), True)
                        self.assertIs(is_shortest_road(one, other, manner, road + road[-1:] * 2), road == [])
                    self.assertIs(is_shortest_road(one, other, manner, None), False)

    def test_every_list_of_pairs_is_judged(self):
        for one in support.all_companies(NINE[:3]):
            for other in support.all_companies(NINE[:3]):
                for manner in [EVEN, ODD, ((0, 1), "odd")]:
                    far = away_from(one, manner).get(tuple(other.friends()))
                    for size in range(4):
                        for lot in itertools.product(all_pairs(NINE[:3]), repeat=size):
                            expected = walked(one, manner, list(lot)) == other and size == far
                            self.assertIs(is_shortest_road(one, other, manner, list(lot)), expected)

    def test_classes(self):
        for company in companies_to(5, 70):
            for manner in MANNERS:
                away = away_from(company, manner)
                found = class_of(company, manner)
                self.assertEqual([one.friends() for one in found], sorted(list(friends) for friends in away))
                self.assertEqual({tuple(one.people()) for one in found}, {tuple(company.people())})
                most = max(away.values())
                numbers = [list(away.values()).count(far) for far in range(most + 1)]
                self.assertEqual(class_by_deeds(company, manner), numbers)
                far = farthest_in_class(company, manner)
                expected = sorted(list(friends) for friends in away if away[friends] == most)
                self.assertEqual([one.friends() for one in far], expected)

    def test_lone_ones(self):
        one = Company(["a"], [])
        for manner in MANNERS:
            self.assertEqual((class_of(one, manner), class_by_deeds(one, manner)), ([one], [1]))
            self.assertEqual((farthest_in_class(one, manner), shared_class(one, manner, EVEN)), ([one], [one]))
            self.assertEqual((fewest_deeds(one, one, manner), shortest_road(one, one, manner)), (0, []))

    def test_shared_classes(self):
        for company in companies_to(4, 6):
            for manner, newer in itertools.product(MANNERS, [EVEN, TIES_ODD, ((0, 2), "even")]):
                both = set(away_from(company, manner)) & set(away_from(company, newer))
                found = shared_class(company, manner, newer)
                self.assertEqual([one.friends() for one in found], sorted(list(friends) for friends in both))

    def test_to_friends(self):
        for company in companies_to(5, 60):
            for manner in MANNERS:
                away = away_from(company, manner)
                for pair in Plain(company).pairs[::1 if len(company.people()) < 5 else 4]:
                    far = min((away[friends] for friends in away if pair in friends), default=None)
                    self.assertEqual(deeds_to_friends(company, manner, pair), far)
                    road = road_to_friends(company, manner, pair)
                    if far is None:
                        self.assertIs(road, None)
                    else:
                        end = walked(company, manner, road)
                        self.assertTrue(len(road) == far and pair in end.friends())
                        self.assertIs(is_road_to_friends(company, manner, pair, road), True)
                        self.assertIs(is_road_to_friends(company, manner, pair, road + road[-1:] * 2), road == [])
                    self.assertIs(is_road_to_friends(company, manner, pair, []), far == 0)
                    self.assertIs(is_road_to_friends(company, manner, pair, None), False)

    def test_every_list_of_pairs_to_friends_is_judged(self):
        for company in support.all_companies(NINE[:3]):
            for manner in [EVEN, TIES_ODD, ((0, 1), "odd")]:
                for pair in all_pairs(NINE[:3]):
                    far = deeds_to_friends(company, manner, pair)
                    for size in range(4):
                        for lot in itertools.product(all_pairs(NINE[:3]), repeat=size):
                            end = walked(company, manner, list(lot))
                            expected = end is not None and pair in end.friends() and size == far
                            self.assertIs(is_road_to_friends(company, manner, pair, list(lot)), expected)


if __name__ == "__main__":
    unittest.main()
