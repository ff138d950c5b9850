"""Points [79] to [87]: wishes."""

import functools
import itertools
import random
import unittest

from evenfriends.companies import Company
from evenfriends.errors import InvalidCount, InvalidManner, InvalidPairs, InvalidPeople, InvalidWishes
from evenfriends.lones import lone_companies
from evenfriends.wishes import (
    are_fixed, are_wishes, company_for, company_for_all, fewest_for, fewest_free, fewest_in_class, forced, free_pairs,
    is_company_for, is_company_for_all, is_least_free, is_odd_lot, is_wished_company, least_free, many_met, meets,
    meets_all, met_at, met_with, odd_lot, rest_of, rest_sum, safe_wishes, surplus, wished_company,
)
from tests import calls, plain, support
from tests.plain import EVEN, MANNERS, Plain, TIES_EVEN

NINE = ["a", "b", "c", "d", "e", "f", "g", "h", "i"]
EVENS = [EVEN, TIES_EVEN]


def all_pairs(people):
    return list(itertools.combinations(sorted(people), 2))


@functools.lru_cache(maxsize=None)
def rest_at(value, manner):
    """The rest by the words: triangles, or pairs of friendships that share a person."""
    told = Plain(plain.from_key(value))
    if manner == EVEN:
        return told.numbers()[3] % 2
    friendships = itertools.combinations(sorted(sorted(pair) for pair in told.friends), 2)
    return sum(len(set(one) & set(other)) == 1 for one, other in friendships) % 2


def plain_rest(company, manner):
    return rest_at(plain.key(company), manner)


def some_wishes(chance, people):
    """Wishes for some pairs, few or many of them, in any order, most of them alike or not."""
    share, friends = chance.choice([0, 0.2, 0.5, 0.8, 1]), chance.choice([0, 0.3, 0.5, 0.8, 1])
    pairs = [pair for pair in all_pairs(people) if chance.random() < share]
    chance.shuffle(pairs)
    return {pair: chance.random() < friends for pair in pairs}


def some_company(chance, people):
    share = chance.choice([0, 0.2, 0.5, 0.8, 1])
    return Company(people, [pair for pair in all_pairs(people) if chance.random() < share])


def free_ones(people, wishes):
    return [pair for pair in all_pairs(people) if pair not in wishes]


def lists_of(things):
    return [list(lot) for size in range(len(things) + 1) for lot in itertools.combinations(things, size)]


def meeting(people, wishes):
    """All companies that meet wishes, each with its number of free pairs that are friends."""
    wished = [pair for pair, wish in wishes.items() if wish]
    return [(Company(people, wished + lot), len(lot)) for lot in lists_of(free_ones(people, wishes))]


def cases(seed, many, most):
    chance = random.Random(seed)
    for _ in range(many):
        people = NINE[:chance.randint(1, most)]
        mixed = list(people)
        chance.shuffle(mixed)
        yield chance, mixed, some_wishes(chance, people)


class Forms(unittest.TestCase):
    def test_are_wishes(self):
        abc = ["c", "a", "b"]
        for value in [{}, {("a", "b"): True}, {("b", "c"): False, ("a", "c"): True}]:
            self.assertIs(are_wishes(abc, value), True)
        for value in calls.WRONG_WISHES + [{("a", "d"): True}, {("x", "y"): False}, None, [], (), "", 0, True]:
            self.assertIs(are_wishes(abc, value), False, value)
        self.assertIs(are_wishes(["a"], {}), True)
        self.assertIs(are_wishes(["a"], {("a", "b"): True}), False)
        with self.assertRaises(InvalidPeople):
            are_wishes([], {})

    def test_meets(self):
        for _, people, wishes in cases(1, 200, 5):
            company = some_company(random.Random(len(wishes)), people)
            told = all((pair in company.friends()) == wish for pair, wish in wishes.items())
            self.assertIs(meets(company, wishes), told)
        self.assertIs(meets(Company(["a"], []), {}), True)

    def test_free_pairs_and_met_with(self):
        for chance, people, wishes in cases(2, 200, 6):
            free = free_pairs(people, wishes)
            self.assertEqual(free, free_ones(people, wishes))
            lot = [pair for pair in free if chance.random() < 0.5]
            chance.shuffle(lot)
            company = met_with(people, wishes, lot)
            self.assertEqual(company.people(), sorted(people))
            self.assertEqual(company.friends(), sorted([pair for pair, wish in wishes.items() if wish] + lot))
            self.assertIs(meets(company, wishes), True)
            for pair in list(wishes)[:2]:
                with self.assertRaises(InvalidPairs) as caught:
                    met_with(people, wishes, lot + [pair])
                self.assertEqual(caught.exception.value, lot + [pair])


class Rests(unittest.TestCase):
    def test_rest_of(self):
        for company in support.small_companies():
            for manner in EVENS:
                self.assertEqual(rest_of(company, manner), plain_rest(company, manner))

    def test_a_deed_leaves_the_rest(self):
        for company in support.all_companies(NINE[:4]):
            for manner in EVENS:
                for pair in Plain(company).let(manner):
                    self.assertEqual(rest_of(plain.behind(company, [pair]), manner), rest_of(company, manner))

    def test_great_rests(self):
        chance = random.Random(3)
        for many in [8, 9, 9]:
            company = some_company(chance, NINE[:many])
            for manner in EVENS:
                self.assertEqual(rest_of(company, manner), plain_rest(company, manner))

    def test_rest_sum_tells_every_rest(self):
        for _, people, wishes in cases(4, 120, 4):
            for manner in EVENS:
                lots = rest_sum(people, wishes, manner)
                self.assertEqual(lots, sorted(set(lots)))
                self.assertTrue(all(type(lot) is tuple and list(lot) == sorted(set(lot)) for lot in lots))
                self.assertTrue(all(len(lot) <= (3 if manner == EVEN else 2) for lot in lots))
                for lot in lists_of(free_ones(people, wishes)):
                    within = sum(set(one) <= set(lot) for one in lots)
                    rest = plain_rest(met_with(people, wishes, lot), manner)
                    self.assertEqual(within % 2, rest, (wishes, manner, lot))

    def test_rest_sum_of_nine(self):
        chance = random.Random(5)
        for _ in range(6):
            wishes = some_wishes(chance, NINE)
            free = free_ones(NINE, wishes)
            for manner in EVENS:
                lots = rest_sum(NINE, wishes, manner)
                for _ in range(5):
                    lot = [pair for pair in free if chance.random() < 0.5]
                    within = sum(set(one) <= set(lot) for one in lots)
                    self.assertEqual(within % 2, plain_rest(met_with(NINE, wishes, lot), manner))
        self.assertEqual(len(rest_sum(NINE, {}, EVEN)), 84)
        self.assertEqual(len(rest_sum(NINE, {}, TIES_EVEN)), 9 * 28)

    def test_no_wishes_and_wishes_for_every_pair(self):
        self.assertEqual(rest_sum(["a"], {}, EVEN), [])
        self.assertEqual(rest_sum(["b", "a"], {}, TIES_EVEN), [])
        every = {pair: True for pair in all_pairs(["a", "b", "c"])}
        self.assertEqual(rest_sum(["a", "b", "c"], every, EVEN), [()])
        self.assertEqual(rest_sum(["a", "b", "c"], every, TIES_EVEN), [()])
        every[("a", "b")] = False
        self.assertEqual(rest_sum(["a", "b", "c"], every, EVEN), [])
        self.assertEqual(rest_sum(["a", "b", "c"], every, TIES_EVEN), [()])

    def test_other_manners_are_none(self):
        company = Company(["a", "b", "c"], [])
        for manner in MANNERS:
            if manner not in EVENS:
                for call in [
                    lambda: rest_of(company, manner), lambda: rest_sum(["a"], {}, manner), lambda: safe_wishes(5, manner),
                    lambda: are_fixed(["a"], {}, manner), lambda: many_met(company, {}, manner),
                    lambda: meets_all(["a"], {}, {}, manner, None),
                ]:
                    with self.assertRaises(InvalidManner) as caught:
                        call()
                    self.assertIs(caught.exception.value, manner)


class Fixed(unittest.TestCase):
    def test_are_fixed(self):
        met = set()
        for _, people, wishes in cases(6, 150, 4):
            for manner in EVENS:
                rests = {plain_rest(company, manner) for company, _ in meeting(people, wishes)}
                self.assertIs(are_fixed(people, wishes, manner), len(rests) == 1)
                met.add((manner, len(rests)))
        self.assertEqual(len(met), 4)

    def test_safe_wishes_by_the_words(self):
        for many in list(range(5, 20)) + [60]:
            self.assertEqual(safe_wishes(many, EVEN), (many - 1) ** 2 // 4 - 1)
            self.assertEqual(safe_wishes(many, TIES_EVEN), many * (many - 1) // 2 - many // 2 - 1)
        for wrong in [4, 1, 0, -1, True, [5], None]:
            with self.assertRaises(InvalidCount) as caught:
                safe_wishes(wrong, None)
            self.assertIs(caught.exception.value, wrong)

    def test_no_wishes_for_so_many_are_fixed(self):
        for pairs in itertools.combinations(all_pairs(NINE[:5]), safe_wishes(5, EVEN)):
            for wish in itertools.product([True, False], repeat=len(pairs)):
                self.assertIs(are_fixed(NINE[:5], dict(zip(pairs, wish)), EVEN), False)
        for pairs in itertools.combinations(all_pairs(NINE[:5]), safe_wishes(5, TIES_EVEN)):
            for wish in list(itertools.product([True, False], repeat=len(pairs)))[::9]:
                self.assertIs(are_fixed(NINE[:5], dict(zip(pairs, wish)), TIES_EVEN), False)

    def test_some_wishes_for_one_more_are_fixed(self):
        for many in [5, 6, 7, 8, 9]:
            people = NINE[:many]
            # Strangers within two halves: what is left has no triangle.
            halves = [people[:many // 2], people[many // 2:]]
            wishes = {pair: False for half in halves for pair in all_pairs(half)}
            self.assertEqual(len(wishes), safe_wishes(many, EVEN) + 1)
            self.assertIs(are_fixed(people, wishes, EVEN), True)
            # Free pairs without a common person, all with the same friends.
            free = list(zip(people[0::2], people[1::2]))
            wishes = {pair: False for pair in all_pairs(people) if pair not in free}
            self.assertEqual(len(wishes), safe_wishes(many, TIES_EVEN) + 1)
            self.assertIs(are_fixed(people, wishes, TIES_EVEN), True)
            for wishes, manner in [({}, EVEN), ({}, TIES_EVEN)]:
                self.assertIs(are_fixed(people, wishes, manner), False)


class Fewest(unittest.TestCase):
    def test_fewest_free_by_plain_search(self):
        met = set()
        for _, people, wishes in cases(7, 150, 4):
            for manner, parity in itertools.product(EVENS, [0, 1]):
                lots = lists_of(free_ones(people, wishes))
                right = [lot for lot in lots if plain_rest(met_with(people, wishes, lot), manner) == parity]
                fewest = min([len(lot) for lot in right], default=None)
                self.assertEqual(fewest_free(people, wishes, manner, parity), fewest)
                told = least_free(people, wishes, manner, parity)
                met.add(fewest)
                self.assertEqual(told is None, fewest is None)
                for lot in lots:
                    is_right = lot in right and len(lot) == fewest
                    self.assertIs(is_least_free(people, wishes, manner, parity, lot), is_right)
                self.assertTrue(told is None or is_least_free(people, wishes, manner, parity, told))
                self.assertTrue(told is None or told in right)
        self.assertEqual(met, {0, 1, 2, 3, None})

    def test_bent_lots_are_none(self):
        abc = ["a", "b", "c"]
        right = [("a", "b"), ("a", "c"), ("b", "c")]
        self.assertIs(is_least_free(abc, {}, EVEN, 1, right), True)
        for value in [
            right[::-1], tuple(right), right[:2], right + [("b", "c")], [list(pair) for pair in right], None, {}, [None],
            [("a", "b"), ("a", "c"), ("c", "b")], dict.fromkeys(right), [("a", "b"), ("a", "c"), ("a", "d")],
        ]:
            self.assertIs(is_least_free(abc, {}, EVEN, 1, value), False, value)
        self.assertIs(is_least_free(abc, {("a", "b"): True}, EVEN, 1, right), False)

    def test_of_nine(self):
        chance = random.Random(8)
        for _ in range(25):
            wishes = some_wishes(chance, NINE)
            for manner, parity in itertools.product(EVENS, [0, 1]):
                told = least_free(NINE, wishes, manner, parity)
                self.assertEqual(fewest_free(NINE, wishes, manner, parity), None if told is None else len(told))
                if told is None:
                    self.assertIs(are_fixed(NINE, wishes, manner), True)
                else:
                    self.assertEqual(plain_rest(met_with(NINE, wishes, told), manner), parity)
                    for lot in itertools.combinations(free_ones(NINE, wishes)[:9], len(told) - 1 if told else 0):
                        rest = plain_rest(met_with(NINE, wishes, list(lot)), manner)
                        self.assertTrue(told == [] or rest != parity)


def class_meeting(company, wishes, manner):
    """The companies that are joined with one by a plain search and meet wishes, with their free friends' numbers."""
    lots = [list(friends) for friends in plain.away_from(company, manner)]
    met = [lot for lot in lots if all((pair in lot) == wish for pair, wish in wishes.items())]
    return [(Company(company.people(), lot), len([pair for pair in lot if pair not in wishes])) for lot in sorted(met)]


SPECIAL = [one for many in [1, 3, 5] for one in lone_companies(NINE[:many], EVEN)]
SPECIAL += [
    Company(NINE[:4], [("a", "b"), ("a", "c"), ("b", "c")]), Company(NINE[:4], all_pairs(NINE[:3]) + [("b", "d")]),
    Company(NINE[:4], all_pairs(NINE[:4])), Company(NINE[:2], []), Company(NINE[:2], [("a", "b")]),
]


class InClass(unittest.TestCase):
    def check(self, company, wishes, manner):
        met = class_meeting(company, wishes, manner)
        numbers = [number for _, number in met]
        fewest = min(numbers, default=None)
        self.assertEqual(fewest_in_class(company, wishes, manner), fewest)
        told = wished_company(company, wishes, manner)
        self.assertEqual(told is None, fewest is None)
        if told is not None:
            self.assertIn((told, fewest), met)
            self.assertIs(is_wished_company(company, wishes, manner, told), True)
        for other, number in met[:8] + met[-3:]:
            self.assertIs(is_wished_company(company, wishes, manner, other), number == fewest)
        chance = random.Random(len(met))
        for other in [some_company(chance, company.people()) for _ in range(6)]:
            is_right = (other, fewest) in met
            self.assertIs(is_wished_company(company, wishes, manner, other), is_right)
        self.assertEqual(many_met(company, wishes, manner), len(met))
        for at in {0, len(met) // 2, len(met) - 1} if met else []:
            self.assertEqual(met_at(company, wishes, manner, at), met[at][0])
        with self.assertRaises(InvalidCount):
            met_at(company, wishes, manner, len(met))
        self.check_forced(company, wishes, manner, [other.friends() for other, _ in met])
        return fewest

    def check_forced(self, company, wishes, manner, lots):
        told = forced(company, wishes, manner)
        if not lots:
            self.assertIsNone(told)
            return
        expected = {}
        for pair in free_ones(company.people(), wishes):
            known = {pair in lot for lot in lots}
            if len(known) == 1:
                expected[pair] = known.pop()
        self.assertEqual(list(told.items()), list(expected.items()))

    def test_few_people_by_plain_search(self):
        met = set()
        for chance, people, wishes in cases(9, 130, 4):
            for manner in EVENS:
                met.add(self.check(some_company(chance, people), wishes, manner))
        self.assertLessEqual({0, 1, 2, 3, None}, met)

    def test_five_people_by_plain_search(self):
        chance = random.Random(10)
        for company in [some_company(chance, NINE[:5]) for _ in range(12)]:
            wishes = some_wishes(chance, NINE[:5])
            for manner in EVENS:
                self.check(company, wishes, manner)

    def test_lone_and_nearly_complete_ones(self):
        chance = random.Random(11)
        for company in SPECIAL:
            own = {pair: pair in company.friends() for pair in all_pairs(company.people()) if chance.random() < 0.5}
            for wishes in [{}, own, some_wishes(chance, company.people())]:
                for manner in EVENS:
                    self.check(company, wishes, manner)

    def test_nothing_else_of_lone_ones(self):
        for many in [3, 5, 7, 9]:
            company = Company(NINE[:many], all_pairs(NINE[:many]))
            self.assertEqual(fewest_in_class(company, {}, EVEN), many * (many - 1) // 2)
            self.assertIs(wished_company(company, {}, EVEN) == company, True)
            self.assertEqual(forced(company, {}, EVEN), {pair: True for pair in all_pairs(NINE[:many])})
            self.assertIsNone(forced(company, {("a", "b"): False}, EVEN))
            self.assertEqual(many_met(company, {("a", "b"): False}, EVEN), 0)
            self.assertEqual(many_met(company, {("a", "b"): True}, EVEN), 1)

    def test_great_nearly_complete_ones(self):
        for many in [4, 6, 8]:
            bare = Company(NINE[:many], all_pairs(NINE[1:many]))
            self.assertEqual(many_met(bare, {}, EVEN), many)
            self.assertEqual(fewest_in_class(bare, {}, EVEN), len(bare.friends()))
            self.assertEqual(fewest_in_class(bare, {("a", "c"): True}, EVEN), len(bare.friends()))
            self.assertEqual(forced(bare, {("a", "c"): True}, EVEN), {
                pair: "a" not in pair for pair in all_pairs(NINE[:many]) if pair != ("a", "c")
            })
            self.assertIsNone(fewest_in_class(bare, {("a", "c"): True, ("a", "b"): True}, EVEN))

    def test_many_free_pairs_of_many_people(self):
        chance = random.Random(12)
        for many in [7, 8, 9]:
            for _ in range(8):
                company, wishes = some_company(chance, NINE[:many]), some_wishes(chance, NINE[:many])
                for manner in EVENS:
                    told = wished_company(company, wishes, manner)
                    lower = fewest_free(NINE[:many], wishes, manner, rest_of(company, manner))
                    if told is None:
                        continue
                    self.assertIs(is_wished_company(company, wishes, manner, told), True)
                    self.assertEqual(plain_rest(told, manner), plain_rest(company, manner))
                    self.assertGreaterEqual(fewest_in_class(company, wishes, manner), lower)

    def test_bent_companies_are_none(self):
        none = Company(NINE[:5], [])
        self.assertIs(is_wished_company(none, {}, EVEN, Company(NINE[:5], [])), True)
        for value in [Company(NINE[:4], []), Company(NINE[1:6], []), None, [], Company(NINE[:5], [("a", "b")])]:
            self.assertIs(is_wished_company(none, {}, EVEN, value), False)

    def test_ten_free_pairs(self):
        wishes = {pair: False for pair in all_pairs(NINE[:7])[10:]}
        company = Company(NINE[:7], [])
        for manner in EVENS:
            number = many_met(company, wishes, manner)
            plainly = [one for one, _ in meeting(NINE[:7], wishes) if plain_rest(one, manner) == 0]
            self.assertEqual(number, len(plainly))
            self.assertEqual(met_at(company, wishes, manner, 0), company)
            last = max(one.friends() for one in plainly)
            self.assertEqual(met_at(company, wishes, manner, number - 1).friends(), last)


class Surplus(unittest.TestCase):
    def test_by_plain_counting(self):
        met = set()
        for _, people, wishes in cases(13, 200, 4):
            rests = [plain_rest(company, TIES_EVEN) for company, _ in meeting(people, wishes)]
            told = surplus(people, wishes)
            self.assertEqual(told, rests.count(0) - rests.count(1), wishes)
            met.add(told)
        self.assertLessEqual({0, 1, 2, -2, -1}, met)

    def test_however_many_pairs_are_free(self):
        chance = random.Random(14)
        for many in [1, 2, 5, 6, 7, 8, 9, 9, 9]:
            people = NINE[:many]
            self.assertEqual(surplus(people, {}), 0 if many > 2 else 2 ** (many - 1))
            wishes = some_wishes(chance, people)
            told = surplus(people, wishes)
            self.assertTrue(told == 0 or abs(told) == 2 ** (abs(told).bit_length() - 1))
            free = free_ones(people, wishes)
            if free:
                # A pair parts them in those with it and those without it.
                parts = [surplus(people, {**wishes, free[-1]: wish}) for wish in [True, False]]
                self.assertEqual(sum(parts), told)


def parities_of(company):
    told = Plain(company)
    return {person: len(told.circle(person)) % 2 for person in told.people}


def some_parities(chance, people):
    share = chance.choice([0, 0.5, 1])
    lot = [person for person in people if chance.random() < share]
    return {person: chance.randint(0, 1) for person in lot}


class Parities(unittest.TestCase):
    def both(self, people, wishes, parities):
        lot = []
        for company, number in meeting(people, wishes):
            told = parities_of(company)
            if all(told[person] == parity for person, parity in parities.items()):
                lot.append((company, number))
        return lot

    def plain_odd(self, people, wishes, parities, lot):
        if not lot or not all(person in parities for person in lot):
            return False
        if any((one in lot) != (other in lot) for one, other in free_ones(people, wishes)):
            return False
        friends = sum(person in pair for person in lot for pair, wish in wishes.items() if wish)
        return (sum(parities[person] for person in lot) + friends) % 2 == 1

    def test_by_plain_search(self):
        met = set()
        for chance, people, wishes in cases(15, 200, 4):
            parities = some_parities(chance, people)
            lots = self.both(people, wishes, parities)
            fewest = min([number for _, number in lots], default=None)
            met.add(fewest)
            self.assertEqual(fewest_for(people, wishes, parities), fewest)
            told = company_for(people, wishes, parities)
            self.assertTrue(told is None and fewest is None or (told, fewest) in lots)
            for company, number in meeting(people, wishes):
                is_right = (company, number) in lots and number == fewest
                self.assertIs(is_company_for(people, wishes, parities, company), is_right)
            for company in [some_company(chance, people) for _ in range(8)]:
                self.assertIs(is_company_for(people, wishes, parities, company), (company, fewest) in lots)
                right = any(company == other for other, _ in lots) and plain_rest(company, EVEN) == 1
                self.assertIs(is_company_for_all(people, wishes, parities, EVEN, 1, company), right)
            self.check_lots(people, wishes, parities, fewest is None)
            for manner, rest in itertools.product(EVENS, [0, 1]):
                right = [company for company, _ in lots if plain_rest(company, manner) == rest]
                self.assertIs(meets_all(people, wishes, parities, manner, rest), right != [])
                found = company_for_all(people, wishes, parities, manner, rest)
                self.assertTrue(found in right if right else found is None)
                for company, _ in meeting(people, wishes)[:20]:
                    told = is_company_for_all(people, wishes, parities, manner, rest, company)
                    self.assertIs(told, company in right)
        self.assertLessEqual({0, 1, None}, met)
        self.assertGreater(max(number for number in met if number is not None), 1)

    def check_lots(self, people, wishes, parities, is_there):
        ordered = sorted(people)
        right = [lot for lot in lists_of(ordered) if self.plain_odd(people, wishes, parities, lot)]
        self.assertEqual(right != [], is_there)
        for lot in lists_of(ordered):
            self.assertIs(is_odd_lot(people, wishes, parities, lot), lot in right)
        told = odd_lot(people, wishes, parities)
        self.assertTrue(told in right if right else told is None)

    def test_bent_lots_and_companies_are_none(self):
        abc, parities = ["a", "b", "c"], {"a": 1, "b": 0, "c": 0}
        self.assertIs(is_odd_lot(abc, {}, parities, abc), True)
        for value in [
            ["c", "b", "a"], ("a", "b", "c"), ["a", "b", "c", "c"], ["a", "b"], [], None, "abc", ["a", "b", "c", "d"],
            ["a", "b", ["c"]], {"a": 1, "b": 1, "c": 1}, [None], ["a", "b", True],
        ]:
            self.assertIs(is_odd_lot(abc, {}, parities, value), False, value)
        for value in [None, [], Company(["a", "b"], []), Company(["a", "b", "d"], []), Company(abc, [("a", "b")])]:
            self.assertIs(is_company_for(abc, {}, {"a": 0}, value), False)
            self.assertIs(is_company_for_all(abc, {}, {"a": 0}, EVEN, 0, value), False)

    def test_nine_people_have_any_even_number_of_odd_ones(self):
        chance = random.Random(16)
        for _ in range(25):
            wishes, parities = some_wishes(chance, NINE), some_parities(chance, NINE)
            told = company_for(NINE, wishes, parities)
            lot = odd_lot(NINE, wishes, parities)
            self.assertEqual(told is None, lot is not None)
            if told is None:
                self.assertIsNone(fewest_for(NINE, wishes, parities))
                self.assertTrue(self.plain_odd(NINE, wishes, parities, lot))
            else:
                self.assertTrue(meets(told, wishes))
                self.assertTrue(all(parities_of(told)[one] == parity for one, parity in parities.items()))
                self.assertIs(is_company_for(NINE, wishes, parities, told), True)
                number = len([pair for pair in told.friends() if pair not in wishes])
                self.assertEqual(fewest_for(NINE, wishes, parities), number)
            for manner, rest in itertools.product(EVENS, [0, 1]):
                found = company_for_all(NINE, wishes, parities, manner, rest)
                self.assertIs(meets_all(NINE, wishes, parities, manner, rest), found is not None)
                if found is not None:
                    self.assertIs(is_company_for_all(NINE, wishes, parities, manner, rest, found), True)
                    self.assertEqual(plain_rest(found, manner), rest)
                    self.assertTrue(all(parities_of(found)[one] == parity for one, parity in parities.items()))
            if told is not None:
                rest = plain_rest(told, EVEN)
                self.assertIs(meets_all(NINE, wishes, parities, EVEN, rest), True)

    def test_for_none_for_all_and_for_nobody_to_meet(self):
        self.assertEqual(fewest_for(NINE, {}, {}), 0)
        self.assertEqual(company_for(NINE, {}, {}), Company(NINE, []))
        self.assertEqual(fewest_for(NINE, {}, {person: 1 for person in NINE[:8]}), 4)
        self.assertIsNone(fewest_for(NINE, {}, {person: 1 for person in NINE}))
        self.assertEqual(odd_lot(NINE, {}, {person: 1 for person in NINE}), NINE)
        # All friendships go through the first person, who is not asked.
        wishes = {pair: False for pair in all_pairs(NINE[1:])}
        self.assertEqual(fewest_for(NINE, wishes, {person: 1 for person in NINE[1:]}), 8)
        self.assertEqual(fewest_for(["a"], {}, {"a": 0}), 0)
        self.assertIsNone(fewest_for(["a"], {}, {"a": 1}))
        self.assertEqual(odd_lot(["a"], {}, {"a": 1}), ["a"])

    def test_wrong(self):
        for parities in [{"a": True}, {"d": 0}, {"a": 2}, [], None, {"a": 0, "b": "0"}]:
            with self.assertRaises(InvalidWishes) as caught:
                meets_all(["a", "b"], {}, parities, None, None)
            self.assertIs(caught.exception.value, parities)


if __name__ == "__main__":
    unittest.main()
