"""Points [51] to [56]: ties."""

import itertools
import random
import unittest

from evenfriends.companies import Company
from evenfriends.errors import InvalidManner, InvalidPeople
from evenfriends.ties import (
    is_moving_road, is_square_road, is_triangle_road, moving_road, square_road, tie_joined, tie_mark, tie_road,
    triangle_road,
)
from tests import support
from tests.plain import Plain, TIES_EVEN, TIES_ODD, are_joined, away_from, behind, walked

NINE = ["a", "b", "c", "d", "e", "f", "g", "h", "i"]
TIES = {"even": TIES_EVEN, "odd": TIES_ODD}


def all_pairs(people):
    return list(itertools.combinations(sorted(people), 2))


def plain_mark(company, word):
    """The mark as the words of [51] say it."""
    odd = len(Plain(company).odd_people())
    return odd if word == "odd" else (len(company.friends()) + odd // 2) % 2


def plain_joined(one, other, word):
    """Whether two companies are joined as the words of [52] say it."""
    many, marks = len(one.people()), (plain_mark(one, word), plain_mark(other, word))
    if one == other or word == "even" and many == 2:
        return True
    return marks[0] == marks[1] and (word == "even" or marks[0] not in (0, many))


def some_of_many(seed, many, least=6, most=9):
    chance = random.Random(seed)
    for at in range(many):
        people = NINE[:chance.randint(least, most)]
        share = [0, 0.1, 0.3, 0.5, 0.8, 1][at % 6]
        yield Company(people, [pair for pair in all_pairs(people) if chance.random() < share])


def companies_to(many, step=1):
    for size in range(1, many + 1):
        yield from itertools.islice(support.all_companies(NINE[:size]), 0, None, step if size > 3 else 1)


def round_pairs(four):
    return [tuple(sorted(pair)) for pair in zip(four, four[1:] + four[:1])]


def orders_of(pairs):
    return [list(order) for order in itertools.permutations(pairs)]


class Marks(unittest.TestCase):
    def test_marks(self):
        for company in itertools.chain(support.small_companies(), some_of_many(1, 60)):
            for word in TIES:
                self.assertEqual(tie_mark(company, word), plain_mark(company, word))
                self.assertIs(type(tie_mark(company, word)), int)

    def test_no_odd_people_and_all_of_them_odd(self):
        everybody = Company(NINE[:8], all_pairs(NINE[:8]))
        self.assertEqual((tie_mark(everybody, "odd"), tie_mark(everybody, "even")), (8, 0))
        self.assertEqual((tie_mark(Company(NINE, []), "odd"), tie_mark(Company(NINE, []), "even")), (0, 0))
        self.assertEqual(tie_mark(Company(NINE, all_pairs(NINE)), "odd"), 0)

    def test_words(self):
        for value in [None, True, TIES_EVEN, ("even",), ["odd"], "Even", "", "evens"]:
            for function, args in [(tie_mark, 1), (tie_joined, 2), (tie_road, 2)]:
                raised = support.error_of(function, [Company(["a"], [])] * args + [value])
                self.assertIs(type(raised), InvalidManner)
                self.assertIs(raised.value, value)


class JoinedAndRoads(unittest.TestCase):
    def check(self, one, other, word):
        joined = plain_joined(one, other, word)
        self.assertIs(tie_joined(one, other, word), joined)
        road = tie_road(one, other, word)
        if joined:
            self.assertLessEqual(len(road), 10 * len(all_pairs(one.people())))
            self.assertEqual(walked(one, TIES[word], road), other)
        else:
            self.assertIs(road, None)
        return joined

    def test_all_of_three(self):
        for size in range(1, 4):
            lot = list(support.all_companies(NINE[:size]))
            for one, other in itertools.product(lot, lot):
                for word in TIES:
                    self.assertIs(self.check(one, other, word), are_joined(one, other, TIES[word]))

    def test_four_and_five(self):
        chance = random.Random(2)
        for size in [4, 5]:
            lot = list(support.all_companies(NINE[:size]))
            for word in TIES:
                for one in chance.sample(lot, 30):
                    for other in chance.sample(lot, 30) + [one]:
                        self.assertIs(self.check(one, other, word), are_joined(one, other, TIES[word]))

    def test_many(self):
        for size in [6, 7, 8, 9]:
            lot = list(some_of_many(size, 60, size, size))
            for word in TIES:
                self.assertGreater(sum(self.check(one, other, word) for one, other in zip(lot, lot[5:])), 5)

    def test_all_of_a_part_of_the_friendships(self):
        """From nobody's friends to all friends, and the like: the longest roads."""
        for size in [6, 8, 9]:
            people = NINE[:size]
            none, every = Company(people, []), Company(people, all_pairs(people))
            almost, one = behind(every, [("a", "b")]), behind(none, [("a", "b")])
            for first, second in itertools.product([none, every, almost, one, behind(almost, [("c", "d")])], repeat=2):
                for word in TIES:
                    self.check(first, second, word)


class Squares(unittest.TestCase):
    def plain_size(self, company, four):
        odd = Plain(company).odd_people()
        alternate = all((one in odd) != (other in odd) for one, other in round_pairs(four))
        return 6 if alternate else 4

    def test_all_rounds_of_four_and_five(self):
        for at, company in enumerate(companies_to(5, 5)):
            fours = list(itertools.permutations(company.people(), 4))
            for four in [list(four) for four in fours[::1 if len(fours) < 25 else 7]]:
                road = square_road(company, four)
                goal = behind(company, round_pairs(four))
                self.assertEqual(walked(company, TIES_EVEN, road), goal)
                self.assertEqual(len(road), self.plain_size(company, four))
                self.assertIs(is_square_road(company, four, road), True)
                if at % 6 == 0:
                    self.assertEqual(len(road), away_from(company, TIES_EVEN)[tuple(goal.friends())])

    def test_judged_of_every_order(self):
        four = ["a", "b", "c", "d"]
        for company in companies_to(4):
            if len(company.people()) == 4:
                for lot in [four, ["a", "c", "b", "d"], ["d", "a", "c", "b"]]:
                    for order in orders_of(round_pairs(lot)):
                        expected = walked(company, TIES_EVEN, order) is not None
                        self.assertIs(is_square_road(company, lot, order), expected)
                        if expected:
                            self.assertIs(is_square_road(company, lot, order + [order[-1]] * 2), False)

    def test_four_and_six(self):
        four = ["a", "b", "c", "d"]
        six = square_road(Company(four, [("a", "c")]), four)
        self.assertEqual((len(six), six[0] == six[-1], six[0] in [("a", "c"), ("b", "d")]), (6, True, True))
        self.assertEqual(len(square_road(Company(four, [("a", "b")]), four)), 4)
        self.assertEqual(len(square_road(Company(four, [("a", "c")]), ["a", "c", "b", "d"])), 4)

    def test_nine_people(self):
        chance = random.Random(3)
        for company in some_of_many(4, 60, 9, 9):
            four = chance.sample(NINE, 4)
            road = square_road(company, four)
            self.assertEqual(walked(company, TIES_EVEN, road), behind(company, round_pairs(four)))
            self.assertEqual(len(road), self.plain_size(company, four))
            self.assertIs(is_square_road(company, four, road), True)
            self.assertIs(is_square_road(company, four, road + road[-1:] * 2), False)

    def test_too_few_people(self):
        for people in [["a"], ["a", "b", "c"]]:
            for four in [people, ["a", "b", "c", "d"]]:
                raised = support.error_of(square_road, [Company(people, []), four])
                self.assertIs(type(raised), InvalidPeople)
                self.assertIs(raised.value, four)


class Moves(unittest.TestCase):
    def test_all_small_companies(self):
        for company in companies_to(5, 9):
            away, by_odd = away_from(company, TIES_ODD), {}
            for friends, far in away.items():
                odd = tuple(Plain(Company(company.people(), list(friends))).odd_people())
                by_odd[odd] = min(far, by_odd.get(odd, far))
            for size in range(len(company.people()) + 1):
                for people in itertools.combinations(company.people(), size):
                    road = moving_road(company, list(people))
                    if people in by_odd:
                        self.assertEqual(Plain(walked(company, TIES_ODD, road)).odd_people(), list(people))
                        self.assertEqual(len(road), by_odd[people])
                        self.assertIs(is_moving_road(company, list(people), road), True)
                        self.assertIs(is_moving_road(company, list(people), road + road[-1:] * 2), road == [])
                    else:
                        self.assertIs(road, None)
                        self.assertIs(is_moving_road(company, list(people), []), False)
                    self.assertIs(is_moving_road(company, list(people), None), False)

    def test_nine_people(self):
        chance = random.Random(5)
        for company in some_of_many(6, 60, 9, 9):
            odd = Plain(company).odd_people()
            people = sorted(chance.sample(NINE, len(odd)))
            road = moving_road(company, people)
            self.assertEqual(Plain(walked(company, TIES_ODD, road)).odd_people(), people)
            self.assertEqual(len(road), len(set(odd) - set(people)))
            self.assertIs(is_moving_road(company, people, road), True)
            self.assertIs(moving_road(company, NINE[:len(odd) + 1]), None)

    def test_a_list_of_none(self):
        self.assertEqual(moving_road(Company(["a"], []), []), [])
        self.assertIs(is_moving_road(Company(["a"], []), [], []), True)
        for people in [(), None, {}, "", ["b", "a"], ["a", "a"]]:
            raised = support.error_of(moving_road, [Company(["a", "b"], []), people])
            self.assertIs(type(raised), InvalidPeople)
            self.assertIs(raised.value, people)


class Triangles(unittest.TestCase):
    def plain_size(self, company, three):
        odd = Plain(company).odd_people()
        if len(odd) in (0, len(company.people())):
            return None
        return 3 if len(set(odd) & set(three)) in (1, 2) else 5

    def test_all_small_companies(self):
        for at, company in enumerate(companies_to(5, 7)):
            for three in [list(three) for three in itertools.combinations(company.people(), 3)]:
                road, size = triangle_road(company, three), self.plain_size(company, three)
                goal = behind(company, all_pairs(three))
                if size is None:
                    self.assertIs(road, None)
                else:
                    self.assertEqual((len(road), walked(company, TIES_ODD, road)), (size, goal))
                    self.assertIs(is_triangle_road(company, three, road), True)
                    self.assertIs(is_triangle_road(company, three, road + road[-1:] * 2), False)
                if at % 5 == 0:
                    self.assertEqual(size, away_from(company, TIES_ODD).get(tuple(goal.friends())))
                for order in orders_of(all_pairs(three)):
                    expected = walked(company, TIES_ODD, order) is not None
                    self.assertIs(is_triangle_road(company, three, order), expected)
                self.assertIs(is_triangle_road(company, three, None), False)

    def test_three_five_and_none(self):
        five = ["a", "b", "c", "d", "e"]
        self.assertEqual(len(triangle_road(Company(five, [("a", "d")]), ["a", "b", "c"])), 3)
        self.assertEqual(len(triangle_road(Company(five, [("a", "b")]), ["a", "b", "c"])), 3)
        self.assertEqual(len(triangle_road(Company(five, [("d", "e")]), ["a", "b", "c"])), 5)
        all_odd = Company(five, [("a", "b"), ("c", "d")])
        self.assertEqual(len(triangle_road(all_odd, ["a", "b", "c"])), 5)
        self.assertIs(triangle_road(Company(five, all_pairs(five)), ["a", "b", "c"]), None)
        self.assertIs(triangle_road(Company(five[:4], [("a", "b"), ("c", "d")]), ["a", "b", "c"]), None)

    def test_nine_people(self):
        chance = random.Random(7)
        for company in some_of_many(8, 60, 9, 9):
            three = sorted(chance.sample(NINE, 3))
            road, size = triangle_road(company, three), self.plain_size(company, three)
            self.assertEqual(road is None, size is None)
            if size is not None:
                self.assertEqual(len(road), size)
                self.assertEqual(walked(company, TIES_ODD, road), behind(company, all_pairs(three)))
                self.assertIs(is_triangle_road(company, three, road), True)

    def test_too_few_people(self):
        for three in [["a", "b"], ["a", "b", "c"]]:
            raised = support.error_of(triangle_road, [Company(["a", "b"], []), three])
            self.assertIs(type(raised), InvalidPeople)
            self.assertIs(raised.value, three)


if __name__ == "__main__":
    unittest.main()
