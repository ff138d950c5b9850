"""Points [88] to [92]: newcomers, cones, and either of two manners."""

import functools
import itertools
import random
import unittest

from evenfriends.companies import Company, cone, cut_to
from evenfriends.errors import InvalidCompany, InvalidCount, InvalidManner, InvalidManners, InvalidPerson, Unlike
from evenfriends.evens import even_mark, even_road, joined_evenly
from evenfriends.newcomers import (
    cones_joined, either_joined, either_lets, either_lone, either_lone_number, either_road, fewest_newcomers,
    freeing_number, is_cone_of, is_either_road, never_free, with_newcomers,
)
from evenfriends.numbers import even_count, odd_count
from evenfriends.odds import is_odd_road, joined_oddly
from tests import plain, support
from tests.plain import EVEN, MANNERS, ODD, Plain, TIES_EVEN, TIES_ODD

NINE = ["a", "b", "c", "d", "e", "f", "g", "h", "i"]
FOUR_MANNERS = [EVEN, ODD, TIES_EVEN, TIES_ODD]
TWO_MANNERS = [list(two) for two in itertools.combinations(MANNERS, 2)]
BOW = Company(NINE[:5], [("a", "b"), ("a", "c"), ("a", "d"), ("a", "e"), ("b", "c"), ("d", "e")])


def all_pairs(people):
    return list(itertools.combinations(sorted(people), 2))


def everybody(many):
    return Company(NINE[:many], all_pairs(NINE[:many]))


def companies(many):
    return list(support.all_companies(NINE[:many]))


class Newcomers(unittest.TestCase):
    def test_words(self):
        for people, number, newer in [
            (["a", "b"], 0, []), (["a", "b"], 1, ["c"]), (["b", "d"], 3, ["a", "c", "e"]), (["z"], 2, ["a", "b"]),
            (["aa", "x"], 26, list("abcdefghijklmnopqrstuvwyz") + ["ab"]), (list("abcdefghijklmnopqrstuvwxyz"), 1, ["aa"]),
            (["zzz"], 28, list("abcdefghijklmnopqrstuvwxyz") + ["aa", "ab"]),
        ]:
            company = Company(people, [])
            self.assertEqual(with_newcomers(company, number).people(), sorted(people + newer))
        self.assertEqual(with_newcomers(BOW, 2).friends(), BOW.friends())
        self.assertEqual(with_newcomers(BOW, 0), BOW)

    def test_fewest_by_plain_search(self):
        met = set()
        for many in [1, 2, 3]:
            for one, other in itertools.product(companies(many), repeat=2):
                for manner in FOUR_MANNERS:
                    met.add(self.check(one, other, manner, [0, 1, 2] if many < 3 else [0, 1]))
        self.assertEqual(met, {0, None})

    def check(self, one, other, manner, numbers):
        told = fewest_newcomers(one, other, manner)
        for number in numbers:
            first, second = with_newcomers(one, number), with_newcomers(other, number)
            self.assertIs(plain.are_joined(first, second, manner), told is not None and told <= number)
        return told

    def test_four_people(self):
        chance = random.Random(1)
        met = set()
        for one, other in [chance.sample(companies(4), 2) for _ in range(150)]:
            for manner in FOUR_MANNERS:
                met.add((manner, self.check(one, other, manner, [0, 1])))
        near = [Company(NINE[:4], all_pairs(lot)) for lot in itertools.combinations(NINE[:4], 3)]
        for one, other in itertools.product(near, repeat=2):
            met.add((EVEN, self.check(one, other, EVEN, [0, 1])))
        self.assertLessEqual({(manner, number) for manner in [EVEN, TIES_ODD] for number in [0, 1, None]}, met)
        self.assertFalse({(manner, 1) for manner in [ODD, TIES_EVEN]} & met)

    def test_five_people_and_more(self):
        chance = random.Random(2)
        lone = [one for one in companies(5) if even_mark(one) == ("lone",)]
        met = set()
        for one, other in itertools.chain(
            itertools.product(lone, repeat=2), [chance.sample(companies(5), 2) for _ in range(200)],
        ):
            told = fewest_newcomers(one, other, EVEN)
            first = [joined_evenly(with_newcomers(one, at), with_newcomers(other, at)) for at in range(4)]
            self.assertEqual(told, first.index(True) if True in first else None)
            met.add(told)
        self.assertEqual(met, {0, 1, 2, None})
        self.assertEqual(fewest_newcomers(everybody(7), Company(NINE[:7], [("a", "b"), ("a", "c"), ("b", "c")]), EVEN), 2)
        self.assertEqual(fewest_newcomers(everybody(6), everybody(6), EVEN), 0)
        near = Company(NINE[:6], all_pairs(NINE[:5]))
        self.assertEqual(fewest_newcomers(near, Company(NINE[:6], all_pairs(NINE[1:6])), EVEN), 1)
        for one, other in [(everybody(6), near), (near, everybody(6))]:
            self.assertEqual(fewest_newcomers(one, other, EVEN), 1)
            self.assertTrue(joined_evenly(with_newcomers(one, 1), with_newcomers(other, 1)))

    def test_other_manners_are_none(self):
        for manner in MANNERS:
            if manner not in FOUR_MANNERS:
                with self.assertRaises(InvalidManner) as caught:
                    fewest_newcomers(BOW, BOW, manner)
                self.assertIs(caught.exception.value, manner)

    def test_freeing_number_by_the_words(self):
        for many in [1, 2, 3, 4]:
            for company in companies(many):
                self.assertEqual(freeing_number(company), 5 - many)
        for company in companies(5):
            told = freeing_number(company)
            is_lone = even_mark(company) == ("lone",)
            self.assertEqual(told, 0 if not is_lone else 2 if company == everybody(5) else 1)
        # With so many newcomers a company is no more lone or nearly complete, with one fewer it is.
        near = [Company(NINE[:6], all_pairs(NINE[:5])), Company(NINE[:6], all_pairs(NINE[:5]) + [("b", "f")])]
        for company in companies(5)[::7] + [everybody(5), BOW, everybody(7), everybody(6)] + near:
            told = freeing_number(company)
            for number in range(3):
                mark = even_mark(with_newcomers(company, number))
                self.assertEqual(mark in [("even",), ("odd",)], number >= told)
        self.assertEqual([freeing_number(one) for one in near], [1, 1])

    def test_freeing_number_by_plain_search(self):
        # The class under (2) even of four people and one newcomer: all of five with the like parity that are not lone.
        for company in companies(4)[::9] + [everybody(4)]:
            wider = with_newcomers(company, 1)
            parity = Plain(wider).numbers()[3] % 2
            lot = {tuple(one.friends()) for one in companies(5) if triangles(one) == parity and not is_lone(one)}
            self.assertEqual(set(plain.away_from(wider, EVEN)), lot)

    def test_never_free(self):
        for company in support.small_companies():
            told = Plain(company)
            self.assertIs(never_free(company), not told.odd_people())
        for company in companies(3):
            for number in [0, 1, 2]:
                lone = Plain(with_newcomers(company, number)).let(TIES_ODD) == []
                self.assertTrue(lone or not never_free(company))


@functools.lru_cache(maxsize=None)
def triangles_at(value):
    return Plain(plain.from_key(value)).numbers()[3] % 2


def triangles(company):
    return triangles_at(plain.key(company))


def is_lone(company):
    return plain.let_at(plain.key(company), EVEN) == ()


class Cones(unittest.TestCase):
    def test_joined_by_plain_search(self):
        for many in [1, 2, 3]:
            for one, other in itertools.product(companies(many), repeat=2):
                joined = plain.are_joined(cone(one, "zz"), cone(other, "zz"), ODD)
                self.assertIs(cones_joined(one, other), joined)
        chance = random.Random(3)
        for one, other in [chance.sample(companies(4), 2) for _ in range(200)]:
            self.assertIs(cones_joined(one, other), plain.are_joined(cone(one, "zz"), cone(other, "zz"), ODD))

    def test_by_the_words(self):
        chance = random.Random(4)
        met = set()
        for many in [4, 5]:
            lone = [one for one in companies(many) if is_lone(one)]
            near = [one for one in companies(many) if even_mark(one)[0] == "nearly"]
            lots = [chance.sample(companies(many), 2) for _ in range(300)]
            for one, other in lots + list(itertools.product((lone + near)[::3], companies(many)[::25] + near)):
                told = joined_evenly(one, other)
                if not told:
                    told = triangles(one) == triangles(other) and not is_lone(one) and not is_lone(other)
                self.assertIs(cones_joined(one, other), told)
                met.add((told, joined_evenly(one, other)))
        self.assertEqual(met, {(True, True), (True, False), (False, False)})

    def test_by_the_same_road(self):
        chance = random.Random(5)
        for one, other in [chance.sample(companies(5), 2) for _ in range(60)]:
            if joined_evenly(one, other):
                self.assertTrue(is_odd_road(cone(one, "zz"), cone(other, "zz"), even_road(one, other)))
        self.assertFalse(joined_oddly(cone(BOW, "f"), cone(Company(NINE[:5], []), "f")))

    def test_is_cone_of(self):
        for company in companies(4)[::3] + [everybody(4)]:
            for person in company.people():
                others = [one for one in company.people() if one != person]
                rest = cut_to(company, others)
                heads = len(Plain(company).circle(person)) == 3
                self.assertIs(is_cone_of(company, person, rest), heads)
                self.assertIs(is_cone_of(company, person, company), False)
                self.assertIs(is_cone_of(company, person, Company(others + ["e"], [])), False)
                self.assertIs(is_cone_of(company, person, Company(others[:2], [])), False)
        for value in support.any_objects():
            self.assertIs(is_cone_of(Company(["z"], []), "z", value), False)
        self.assertIs(is_cone_of(cone(BOW, "x"), "x", BOW), True)
        with self.assertRaises(InvalidPerson) as caught:
            is_cone_of(BOW, "f", None)
        self.assertEqual(caught.exception.value, "f")


@functools.lru_cache(maxsize=None)
def plain_lets(value, one, other):
    return tuple(sorted(set(plain.let_at(value, one)) | set(plain.let_at(value, other))))


def found_from(company, manners):
    """From the friends of all that deeds under either manner lead to, to how few deeds do, by plain search."""
    people, start = plain.key(company)
    away, queue = {start: 0}, [start]
    for friends in queue:
        for pair in plain_lets((people, friends), *manners):
            later = tuple(sorted(set(friends) ^ {pair}))
            if later not in away:
                away[later] = away[friends] + 1
                queue.append(later)
    return away


def is_road(one, other, manners, road):
    friends = tuple(one.friends())
    for pair in road:
        if pair not in plain_lets((tuple(one.people()), friends), *manners):
            return False
        friends = tuple(sorted(set(friends) ^ {pair}))
    return friends == tuple(other.friends())


class Either(unittest.TestCase):
    def test_lets(self):
        for company in companies(3) + companies(4)[::5] + [BOW, Company(["a"], []), Company(["a", "b"], [])]:
            for manners in TWO_MANNERS:
                told = list(plain_lets(plain.key(company), *manners))
                self.assertEqual(either_lets(company, manners), told)
                self.assertIs(either_lone(company, manners), told == [])

    def test_joined_and_roads_by_plain_search(self):
        for many in [1, 2, 3]:
            for manners in TWO_MANNERS:
                for one in companies(many):
                    found = found_from(one, manners)
                    for other in companies(many):
                        self.check(one, other, manners, found.get(tuple(other.friends())), many < 3)

    def test_four_people(self):
        chance = random.Random(6)
        for manners in TWO_MANNERS:
            for one in chance.sample(companies(4), 2) + [everybody(4)]:
                found = found_from(one, manners)
                for other in chance.sample(companies(4), 6):
                    self.check(one, other, manners, found.get(tuple(other.friends())), chance.random() < 0.3)

    def check(self, one, other, manners, far, with_road):
        self.assertIs(either_joined(one, other, manners), far is not None, (manners, one.friends(), other.friends()))
        if with_road:
            road = either_road(one, other, manners)
            self.assertEqual(road is None, far is None)
            if road is not None:
                self.assertEqual(len(road), far)
                self.assertTrue(is_road(one, other, manners, road))
                self.assertIs(is_either_road(one, other, manners, road), True)

    def test_five_people(self):
        chance = random.Random(7)
        for manners in chance.sample(TWO_MANNERS, 5) + [[TIES_ODD, EVEN], [TIES_ODD, ODD]]:
            one = chance.choice(companies(5))
            found = found_from(one, manners)
            for other in chance.sample(companies(5), 5) + [Company(NINE[:5], []), BOW, everybody(5)]:
                self.check(one, other, manners, found.get(tuple(other.friends())), True)

    def test_nine_people(self):
        none, some = Company(NINE, []), Company(NINE, [("a", "b"), ("c", "d"), ("a", "e")])
        self.assertIs(either_joined(none, some, [TIES_EVEN, EVEN]), True)
        self.assertIs(either_joined(none, some, [TIES_ODD, ODD]), False)
        self.assertIs(either_joined(some, Company(NINE, [("a", "b")]), [TIES_ODD, ODD]), True)
        # Two that let as one: for an odd number of people these are one.
        self.assertIs(either_joined(none, some, [((0, 1), "even"), ((2,), "odd")]), False)
        self.assertIs(either_joined(none, some, [((0, 1), "odd"), ((2,), "even")]), True)
        self.assertIs(either_joined(none, none, [((), "odd"), ((0, 1, 2), "even")]), True)
        self.assertIs(either_joined(none, some, [((), "odd"), ((0, 1, 2), "even")]), False)
        self.assertIs(either_joined(none, some, [((), "odd"), ((0, 1, 2), "odd")]), True)

    def test_is_either_road(self):
        abc = ["a", "b", "c"]
        none, path = Company(abc, []), Company(abc, [("a", "b"), ("b", "c")])
        manners = [TIES_EVEN, EVEN]
        for value in [[("a", "b"), ("b", "c")], [("b", "c"), ("a", "b")]]:
            self.assertIs(is_either_road(none, path, manners, value), True)
        for value in [
            [], [("a", "b")], [("a", "b"), ("b", "c"), ("a", "c"), ("a", "c")], (("a", "b"), ("b", "c")), None,
            [["a", "b"], ("b", "c")], [("b", "a"), ("b", "c")], [("a", "b"), ("b", "d")], {("a", "b"): 1, ("b", "c"): 1},
            [("a", "b"), None], [("b", "c"), ("a", "c")],
        ]:
            self.assertIs(is_either_road(none, path, manners, value), False, value)
        # A pair that is let under neither where it stands.
        self.assertIs(is_either_road(none, path, [((), "odd"), TIES_ODD], [("a", "b"), ("b", "c")]), False)
        self.assertIs(is_either_road(path, path, manners, []), True)

    def test_lone_numbers_by_plain_counting(self):
        for many in [1, 2, 3, 4]:
            for manners in TWO_MANNERS:
                number = sum(plain_lets(plain.key(one), *manners) == () for one in companies(many))
                self.assertEqual(either_lone_number(many, manners), number, (many, manners))
        for manners in TWO_MANNERS[::6]:
            number = sum(plain_lets(plain.key(one), *manners) == () for one in companies(5))
            self.assertEqual(either_lone_number(5, manners), number, manners)

    def test_great_lone_numbers_by_the_words(self):
        for many in range(6, 15):
            is_odd = many % 2 == 1
            evens, both = even_count(many), even_count(many) + odd_count(many)
            for manners, number in [
                ([TIES_EVEN, EVEN], 0), ([((0,), "odd"), TIES_EVEN], 0), ([EVEN, ODD], 0), ([((0,), "even"), EVEN], 0),
                ([((0,), "even"), ((0,), "odd")], 0), ([TIES_ODD, ODD], both), ([((0,), "odd"), TIES_ODD], both),
                ([TIES_ODD, EVEN], evens if is_odd else 0), ([((0,), "even"), TIES_ODD], evens if is_odd else 0),
                ([((0,), "even"), ODD], evens if is_odd else 0), ([((0,), "odd"), EVEN], evens if is_odd else 0),
                ([((0,), "odd"), ODD], 0 if is_odd else 2 * evens), ([((), "even"), ODD], 0),
                ([((), "odd"), EVEN], evens if is_odd else 0), ([((0, 1), "even"), EVEN], 0),
                ([((0, 1), "odd"), EVEN], evens if is_odd else 0), ([((), "odd"), TIES_EVEN], 0),
            ]:
                self.assertEqual(either_lone_number(many, manners), number, (many, manners))

    def test_wrong(self):
        for manners in [[EVEN, TIES_ODD], [EVEN, EVEN], [EVEN], (TIES_ODD, EVEN), [TIES_ODD, list(EVEN)], None, []]:
            for call in [
                lambda: either_lets(BOW, manners), lambda: either_lone(BOW, manners),
                lambda: either_joined(BOW, BOW, manners), lambda: either_road(BOW, BOW, manners),
                lambda: is_either_road(BOW, BOW, manners, None), lambda: either_lone_number(1, manners),
            ]:
                with self.assertRaises(InvalidManners) as caught:
                    call()
                self.assertIs(caught.exception.value, manners)
        for call, error in [
            (lambda: either_joined(BOW, everybody(4), None), Unlike), (lambda: either_lone_number(0, None), InvalidCount),
            (lambda: either_road(BOW, None, None), InvalidCompany), (lambda: fewest_newcomers(BOW, everybody(4), None), Unlike),
        ]:
            with self.assertRaises(error):
                call()


if __name__ == "__main__":
    unittest.main()
