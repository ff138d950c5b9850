"""Points [44] to [50]: common friends odd."""

import itertools
import random
import unittest

from evenfriends.companies import Company
from evenfriends.odds import (
    fewest_oddly, headed, is_headed, is_least_oddly, is_odd_road, joined_oddly, least_oddly, odd_marks, odd_parting,
    odd_road, oddly_bound, parts_of,
)
from tests import support
from tests.plain import EVEN, ODD, Plain, behind, classes_of, from_key, walked

NINE = ["a", "b", "c", "d", "e", "f", "g", "h", "i"]
PEOPLE = [tuple(NINE[:many]) for many in range(1, 6)]

# The rows of companies of one part: bit j of the number at i tells whether the people at i and j are friends.
RARE = [
    [6, 329, 329, 54, 200, 200, 54, 48, 6],
    [6, 105, 105, 390, 384, 390, 6, 56, 56],
    [6, 329, 329, 54, 392, 392, 6, 48, 54],
    [6, 449, 449, 416, 416, 24, 6, 30, 30],
    [30, 29, 51, 51, 15, 12],
    [30, 29, 43, 23, 43, 20],
    [30, 45, 27, 23, 45, 18],
    [30, 29, 27, 39, 39, 24],
    [62, 61, 99, 3, 99, 23, 20],
    [30, 121, 17, 115, 15, 74, 42],
    [62, 101, 51, 33, 101, 31, 18],
    [30, 109, 107, 23, 9, 70, 38],
    [126, 17, 17, 209, 111, 209, 57, 40],
    [62, 61, 3, 3, 227, 211, 176, 112],
    [62, 5, 59, 229, 5, 205, 168, 104],
    [62, 229, 59, 5, 5, 199, 162, 98],
    [254, 129, 393, 181, 393, 73, 161, 95, 20],
    [254, 377, 377, 23, 143, 199, 167, 113, 6],
    [254, 161, 297, 53, 297, 223, 161, 99, 20],
    [254, 449, 137, 165, 449, 73, 179, 95, 18],
    [126, 153, 249, 231, 135, 13, 13, 30],
    [126, 249, 153, 135, 231, 19, 19, 30],
    [126, 25, 177, 35, 103, 93, 177, 68],
    [62, 49, 49, 49, 239, 223, 176, 112],
]


def all_pairs(people):
    return list(itertools.combinations(people, 2))


def plain_mark(company, part):
    """The odd mark of a part as the words of [45] say it."""
    cut = Plain(company).cut(part)
    if not cut.let(ODD):
        return "lone"
    return ["even", "odd"][(len(cut.friends) + cut.numbers()[3]) % 2]


def plain_parting(one, other):
    """What parts two companies as the words of [46] say it, None if they are joined."""
    parts = Plain(one).parts()
    if parts != Plain(other).parts():
        return ("parts",)
    for part in parts:
        marks = plain_mark(one, part), plain_mark(other, part)
        if Plain(one).cut(part).friends != Plain(other).cut(part).friends and (marks[0] != marks[1] or "lone" in marks):
            return (part, *marks)
    return None


def plain_fewest(company):
    """The fewest friendships as the words of [47] say it."""
    fewest = 0
    for part in Plain(company).parts():
        mark, many = plain_mark(company, part), len(part)
        if mark == "lone":
            fewest += len(Plain(company).cut(part).friends)
        else:
            fewest += many - 1 if mark == ["even", "odd"][(many - 1) % 2] else many
    return fewest


def has_heads(company):
    """Whether each part that is not lone has a head, as the words of [48] say it."""
    plain = Plain(company)
    return all(
        plain_mark(company, part) == "lone" or any(len(plain.circle(person)) == len(part) - 1 for person in part)
        for part in plain.parts()
    )


def some_of_many(seed, many, least=6, most=9):
    """Companies of so many people, of some parts: sparse, middling, dense, nearly all friends."""
    chance = random.Random(seed)
    for at in range(many):
        people = NINE[:chance.randint(least, most)]
        share = [0.1, 0.2, 0.3, 0.5, 0.8, 0.95, 1][at % 7]
        split = chance.choice([0, 0, 1, 3, 4])
        lots = [chance.sample(people, len(people))]
        lots = [lots[0][:split], lots[0][split:]]
        pairs = [tuple(sorted(pair)) for lot in lots for pair in all_pairs(lot)]
        yield Company(people, [pair for pair in pairs if chance.random() < share])


def strolled(company, chance, deeds):
    """A company joined with one, some deeds away."""
    plain = Plain(company)
    for _ in range(deeds):
        let = plain.let(ODD)
        if not let:
            break
        plain = plain.turned(chance.choice(let))
    return plain.company()


def heads_beside_nearly_complete(many):
    """A head and others who are nearly complete: each head, each odd one, without or with a friend."""
    people = NINE[:many]
    for head, odd in itertools.permutations(people, 2):
        rest = [one for one in people if one not in (head, odd)]
        friends = all_pairs(sorted(rest + [head])) + [tuple(sorted([head, odd]))]
        for more in [[]] + [[tuple(sorted([odd, one]))] for one in rest]:
            yield Company(people, friends + more)


class Parts(unittest.TestCase):
    def test_parts_and_marks_of_all_small_companies(self):
        for people in PEOPLE:
            for at, company in enumerate(support.all_companies(people)):
                if len(people) < 5 or at % 3 == 0:
                    parts = Plain(company).parts()
                    self.assertEqual(parts_of(company), parts)
                    self.assertEqual(odd_marks(company), [plain_mark(company, part) for part in parts])

    def test_parts_and_marks_of_many(self):
        for company in some_of_many(1, 150):
            parts = Plain(company).parts()
            self.assertEqual(parts_of(company), parts)
            self.assertEqual(odd_marks(company), [plain_mark(company, part) for part in parts])

    def test_one_and_two_people(self):
        self.assertEqual((parts_of(Company(["a"], [])), odd_marks(Company(["a"], []))), ([["a"]], ["lone"]))
        self.assertEqual(odd_marks(Company(["a", "b"], [])), ["lone", "lone"])
        self.assertEqual(odd_marks(Company(["a", "b"], [("a", "b")])), ["lone"])

    def test_deeds_leave_the_parts(self):
        for company in support.all_companies(["a", "b", "c", "d"]):
            for pair in Plain(company).let(ODD):
                self.assertEqual(parts_of(behind(company, [pair])), parts_of(company))


class Joined(unittest.TestCase):
    def test_all_classes_of_small_companies(self):
        for people in PEOPLE:
            lots = classes_of(people, ODD)
            first = [from_key((people, lot[0])) for lot in lots]
            for at, lot in enumerate(lots):
                for friends in lot[::1 + len(lot) // 12]:
                    company = from_key((people, friends))
                    for place, other in enumerate(first):
                        self.assertIs(joined_oddly(company, other), at == place)
                        self.assertIs(odd_parting(company, other) is None, at == place)

    def test_the_numbers_of_classes(self):
        self.assertEqual([len(classes_of(people, ODD)) for people in PEOPLE], [1, 2, 5, 19, 73])

    def test_what_parts_them(self):
        chance = random.Random(3)
        for people in PEOPLE:
            lot = list(support.all_companies(people))
            for one in chance.sample(lot, min(len(lot), 60)):
                for other in chance.sample(lot, min(len(lot), 20)) + [one]:
                    self.assertEqual(odd_parting(one, other), plain_parting(one, other))

    def test_the_first_part_in_which_they_are_parted(self):
        left, right = [("a", "b"), ("b", "c")], [("d", "e"), ("e", "f")]
        square = [("f", "g"), ("f", "i"), ("g", "h"), ("h", "i")]
        star = [("f", "g"), ("f", "h"), ("f", "i")]
        one = Company(NINE, left + [("d", "e")] + square)
        self.assertEqual(odd_parting(one, Company(NINE, left + [("d", "e")] + star)), (["f", "g", "h", "i"], "lone", "odd"))
        self.assertEqual(odd_parting(one, Company(NINE, left + right)), ("parts",))
        other = [("f", "g"), ("f", "h"), ("g", "i"), ("h", "i")]
        parted = odd_parting(one, Company(NINE, [("a", "c"), ("b", "c"), ("d", "e")] + other))
        self.assertEqual(parted, (["f", "g", "h", "i"], "lone", "lone"))
        self.assertIs(odd_parting(one, Company(NINE, [("a", "c"), ("b", "c"), ("d", "e")] + square)), None)

    def test_of_many(self):
        lot = list(some_of_many(4, 300, 8, 8))
        for one, other in zip(lot, lot[1:]):
            self.assertEqual(odd_parting(one, other), plain_parting(one, other))
            self.assertIs(joined_oddly(one, other), plain_parting(one, other) is None)


class LeastAndHeaded(unittest.TestCase):
    def test_all_classes_of_small_companies(self):
        for people in PEOPLE:
            for lot in classes_of(people, ODD):
                fewest = min(len(friends) for friends in lot)
                always = [pair for pair in all_pairs(people) if all(pair in friends for friends in lot)]
                never = [pair for pair in all_pairs(people) if not any(pair in friends for friends in lot)]
                for friends in lot[::1 + len(lot) // 20]:
                    company = from_key((people, friends))
                    self.assertEqual(fewest_oddly(company), fewest)
                    self.assertEqual(oddly_bound(company), (always, never))
                    least, head = least_oddly(company), headed(company)
                    self.assertIn(tuple(least.friends()), lot)
                    self.assertEqual(len(least.friends()), fewest)
                    self.assertIs(is_least_oddly(company, least), True)
                    self.assertIn(tuple(head.friends()), lot)
                    self.assertTrue(has_heads(head))
                    self.assertIs(is_headed(company, head), True)

    def test_judged_of_every_company(self):
        for people in PEOPLE[:4]:
            lots = classes_of(people, ODD)
            for lot in lots[::1 + len(lots) // 6]:
                company = from_key((people, lot[-1]))
                fewest = min(len(friends) for friends in lot)
                for other in support.all_companies(people):
                    friends = tuple(other.friends())
                    self.assertIs(is_least_oddly(company, other), friends in lot and len(friends) == fewest)
                    self.assertIs(is_headed(company, other), friends in lot and has_heads(other))
                for other in [Company(["x", *people], []), None, people]:
                    self.assertIs(is_least_oddly(company, other), False)
                    self.assertIs(is_headed(company, other), False)

    def test_of_many(self):
        for company in some_of_many(5, 150):
            least, head = least_oddly(company), headed(company)
            self.assertEqual((fewest_oddly(company), len(least.friends())), (plain_fewest(company),) * 2)
            for made, judged in [(least, is_least_oddly), (head, is_headed)]:
                self.assertIs(plain_parting(company, made), None)
                self.assertIs(judged(company, made), True)
            self.assertTrue(has_heads(head))

    def test_bound_pairs_of_many(self):
        for company in some_of_many(6, 60):
            plain, always, never = Plain(company), [], []
            for pair in plain.pairs:
                shared = [part for part in plain.parts() if pair[0] in part and pair[1] in part]
                if not shared or plain_mark(company, shared[0]) == "lone":
                    (always if plain.are(*pair) else never).append(pair)
            self.assertEqual(oddly_bound(company), (always, never))


class Roads(unittest.TestCase):
    def check(self, one, other):
        road = odd_road(one, other)
        if plain_parting(one, other) is None:
            self.assertLessEqual(len(road), 4000)
            self.assertEqual(walked(one, ODD, road), other)
            self.assertIs(is_odd_road(one, other, road), True)
            self.assertIs(is_odd_road(one, other, road + road[-1:]), road == [])
        else:
            self.assertIs(road, None)
        self.assertIs(is_odd_road(one, other, None), False)
        return road is not None

    def test_small_companies(self):
        for people in PEOPLE:
            for lot in classes_of(people, ODD):
                one = from_key((people, lot[0]))
                for friends in lot[::1 + len(lot) // 25]:
                    self.assertIs(self.check(one, from_key((people, friends))), True)
                    self.assertIs(self.check(from_key((people, friends)), one), True)

    def test_parted_ones(self):
        chance = random.Random(7)
        for people in PEOPLE:
            lot = list(support.all_companies(people))
            for _ in range(60):
                self.check(chance.choice(lot), chance.choice(lot))

    def test_of_many(self):
        chance = random.Random(8)
        for one in some_of_many(9, 150):
            self.assertIs(self.check(one, strolled(one, chance, 60)), True)
        lot = list(some_of_many(10, 300, 9, 9))
        self.assertGreater(sum(self.check(one, other) for one, other in zip(lot, lot[7:])), 10)

    def test_a_head_beside_nearly_complete_ones(self):
        for many in [5, 7, 9]:
            met = list(heads_beside_nearly_complete(many))[::1 if many < 9 else 5]
            for one, other in zip(met, met[1::17] + met[::-1]):
                self.assertEqual(plain_mark(one, one.people()), plain_mark(other, other.people()))
                self.assertIs(self.check(one, other), True)

    def test_rows_that_come_rarely(self):
        """Companies whose first person becomes the head by the last rows of point [48] alone."""
        for numbers in RARE:
            people = NINE[:len(numbers)]
            friends = [pair for pair in all_pairs(people) if numbers[NINE.index(pair[0])] >> NINE.index(pair[1]) & 1]
            one = Company(people, friends)
            self.assertNotIn("lone", [plain_mark(one, part) for part in Plain(one).parts()])
            self.assertIs(self.check(one, headed(one)), True)

    def test_of_whatever_length(self):
        path = Company(["a", "b", "c"], [("a", "b"), ("b", "c")])
        triangle = Company(["a", "b", "c"], [("a", "b"), ("a", "c"), ("b", "c")])
        self.assertIs(is_odd_road(path, triangle, [("a", "c")] * 399), True)
        self.assertIs(is_odd_road(path, triangle, [("a", "c")] * 400), False)
        self.assertIs(is_odd_road(path, path, []), True)
        self.assertIs(is_odd_road(path, behind(path, [("a", "b")]), [("a", "b")]), False)
        self.assertIsNotNone(walked(path, EVEN, [("a", "b")]))


if __name__ == "__main__":
    unittest.main()
