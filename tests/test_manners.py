"""Points [23] to [29]: manners."""

import itertools
import unittest

from evenfriends.companies import Company, opposite
from evenfriends.errors import InvalidCount, InvalidPair
from evenfriends.manners import (
    alike_manners, all_manners, are_alike, counted_people, freed_by, is_kept, is_let, is_manner, is_parting_company,
    kept_counts, let_number, let_pairs, lets_all, lets_none, manners_letting, opposite_manner, parity_of,
    parting_company, real_manner,
)
from tests import calls, support
from tests.plain import EVEN, MANNERS, ODD, TIES_EVEN, Plain, classes_of, from_key, key, let_at

NINE = ["a", "b", "c", "d", "e", "f", "g", "h", "i"]


def companies_to(many):
    for size in range(1, many + 1):
        yield from support.all_companies(support.LETTERS[:size])


class Manners(unittest.TestCase):
    def test_all_sixteen(self):
        self.assertEqual(support.frozen(all_manners()), support.frozen(MANNERS))
        self.assertEqual(all_manners(), sorted(set(MANNERS)))
        all_manners().clear()
        self.assertEqual(len(all_manners()), 16)

    def test_is_manner(self):
        for manner in MANNERS:
            self.assertIs(is_manner(manner), True)
        for value in support.any_objects() + calls.a_manner().near:
            self.assertIs(is_manner(value), calls.is_manner(value))
        for value in calls.a_manner().wrongs():
            self.assertIs(is_manner(value=value), False)

    def test_let_by_every_manner(self):
        for company in support.small_companies():
            plain = Plain(company)
            for manner in MANNERS:
                expected = plain.let(manner)
                self.assertEqual(let_pairs(company, manner), expected)
                self.assertEqual(let_number(company, manner), len(expected))

    def test_counted_people(self):
        for company in companies_to(4):
            plain = Plain(company)
            for manner in MANNERS:
                for pair in plain.pairs:
                    self.assertEqual(counted_people(company, manner, pair), plain.counted(manner, pair))
                    self.assertIs(is_let(company, manner, pair), plain.lets(manner, pair))

    def test_nine_people(self):
        everybody = list(itertools.combinations(NINE, 2))
        for friends in [[], everybody, everybody[1:], everybody[:20], everybody[::2], everybody[::5]]:
            company = Company(NINE, friends)
            plain = Plain(company)
            for manner in MANNERS:
                self.assertEqual(let_pairs(company, manner), plain.let(manner))
                self.assertEqual(counted_people(company, manner, ("b", "h")), plain.counted(manner, ("b", "h")))

    def test_no_kinds_and_all_kinds(self):
        for company in companies_to(4):
            many, pairs = len(company.people()), Plain(company).pairs
            self.assertEqual([let_pairs(company, ((), word)) for word in ["even", "odd"]], [pairs, []])
            all_kinds = [let_pairs(company, ((0, 1, 2), word)) for word in ["even", "odd"]]
            self.assertEqual(all_kinds, [pairs, []] if many % 2 == 0 else [[], pairs])

    def test_manners_letting(self):
        for company in companies_to(4):
            plain = Plain(company)
            let = {manner: plain.let(manner) for manner in MANNERS}
            for pairs in list(let.values()) + [[], plain.pairs, plain.pairs[:1]]:
                self.assertEqual(manners_letting(company, pairs), [one for one in MANNERS if let[one] == pairs])

    def test_one_person_lets_nothing(self):
        one = Company(["z"], [])
        self.assertEqual(manners_letting(one, []), MANNERS)
        for manner in MANNERS:
            self.assertEqual((let_pairs(one, manner), let_number(one, manner)), ([], 0))
            self.assertIs(type(support.error_of(is_let, [one, manner, ("y", "z")])), InvalidPair)

    def test_freed_by(self):
        for company in companies_to(4):
            plain = Plain(company)
            for manner in MANNERS:
                let = plain.let(manner)
                for pair in plain.pairs:
                    if pair in let:
                        expected = len(plain.turned(pair).let(manner)) - len(let)
                        self.assertEqual(freed_by(company, manner, pair), expected)
                    else:
                        raised = support.error_of(freed_by, [company, manner, pair])
                        self.assertIs(type(raised), InvalidPair)
                        self.assertIs(raised.value, pair)


class Tallies(unittest.TestCase):
    def test_parity_of_all_tallies(self):
        self.assertEqual(len(calls.all_tallies()), 32)
        for company in support.small_companies():
            plain = Plain(company)
            for tally in calls.all_tallies():
                told = parity_of(company, tally)
                self.assertEqual(told, plain.tallied(tally))
                self.assertIs(type(told), int)

    def test_kept_by_every_let_deed(self):
        """What any deed breaks some deed of at most four people breaks."""
        kept = {manner: set(calls.all_tallies()) for manner in MANNERS}
        for company in companies_to(4):
            plain = Plain(company)
            before = {tally: plain.tallied(tally) for tally in calls.all_tallies()}
            for pair in plain.pairs:
                later = plain.turned(pair)
                broken = {tally for tally in calls.all_tallies() if later.tallied(tally) != before[tally]}
                for manner in MANNERS:
                    if plain.lets(manner, pair):
                        kept[manner] -= broken
        for manner in MANNERS:
            self.assertEqual(kept_counts(manner), sorted(kept[manner]))
            for tally in calls.all_tallies():
                self.assertIs(is_kept(manner, tally), tally in kept[manner])

    def test_the_point_s_own_words(self):
        for kinds, word in MANNERS:
            for numbers, flag in calls.all_tallies():
                moved = tuple(kind for kind in range(3) if len({kind, kind + 1} & set(numbers)) == 1)
                expected = moved == kinds and flag == (word == "odd") or not moved and not flag
                expected = expected or (kinds, word) == ((), "odd")
                self.assertIs(is_kept((kinds, word), (numbers, flag)), expected)

    def test_a_manner_that_lets_nothing_keeps_every_tally(self):
        self.assertEqual(kept_counts(((), "odd")), calls.all_tallies())

    def test_things_that_are_no_tallies_are_not_kept(self):
        for value in calls.a_tally().wrongs():
            for manner in MANNERS:
                self.assertIs(is_kept(manner, value), False)

    def test_kept_along_all_of_a_class(self):
        people = ("a", "b", "c", "d")
        for manner in [EVEN, ODD, TIES_EVEN, ((0, 2), "odd")]:
            for lot in classes_of(people, manner):
                for tally in kept_counts(manner):
                    parities = {parity_of(from_key((people, friends)), tally) for friends in lot}
                    self.assertEqual(len(parities), 1)


class Alike(unittest.TestCase):
    def let_by_all(self, many):
        """For each manner what it lets at every company of so many people."""
        lots = list(support.all_companies(support.LETTERS[:many]))
        return {manner: [let_at(key(company), manner) for company in lots] for manner in MANNERS}

    def test_against_every_company(self):
        for many in range(1, 5):
            let = self.let_by_all(many)
            for one in MANNERS:
                alike = [other for other in MANNERS if let[one] == let[other]]
                self.assertEqual(alike_manners(one, many), alike)
                for other in MANNERS:
                    self.assertIs(are_alike(one, other, many), other in alike)
                all_pairs = many * (many - 1) // 2
                self.assertIs(lets_all(one, many), all(len(pairs) == all_pairs for pairs in let[one]))
                self.assertIs(lets_none(one, many), not any(let[one]))

    def test_numbers_to_fourteen(self):
        for many in range(3, 15):
            for one in MANNERS:
                others = tuple(kind for kind in range(3) if kind not in one[0])
                word = one[1] if many % 2 == 0 else {"even": "odd", "odd": "even"}[one[1]]
                self.assertEqual(alike_manners(one, many), sorted([one, (others, word)]))
                self.assertIs(lets_all(one, many), ((), "even") in alike_manners(one, many))
                self.assertIs(lets_none(one, many), ((), "odd") in alike_manners(one, many))

    def test_one_and_two_people(self):
        for manner in MANNERS:
            self.assertEqual(alike_manners(manner, 1), MANNERS)
            self.assertEqual(alike_manners(manner, 2), [one for one in MANNERS if one[1] == manner[1]])
            self.assertEqual((lets_all(manner, 1), lets_none(manner, 1)), (True, True))
            self.assertEqual((lets_all(manner, 2), lets_none(manner, 2)), (manner[1] == "even", manner[1] == "odd"))

    def test_parting_companies(self):
        for many in range(1, 10):
            for one in MANNERS:
                for other in MANNERS:
                    found = parting_company(one, other, many)
                    if are_alike(one, other, many):
                        self.assertIs(found, None)
                    else:
                        self.assertEqual(len(found.people()), many)
                        self.assertNotEqual(Plain(found).let(one), Plain(found).let(other))
                        self.assertIs(is_parting_company(one, other, many, found), True)
                        self.assertIs(is_parting_company(one, other, many + 1, found), False)
                    self.assertIs(is_parting_company(one, other, many, None), False)

    def test_is_parting_company_of_every_company(self):
        for company in companies_to(3):
            many, plain = len(company.people()), Plain(company)
            let = {manner: plain.let(manner) for manner in MANNERS}
            for one in MANNERS:
                for other in MANNERS:
                    parting = let[one] != let[other]
                    self.assertIs(is_parting_company(one, other, many, company), parting)
                    self.assertIs(is_parting_company(one, other, many + 1, company), False)

    def test_a_company_of_other_numbers_is_none(self):
        square = calls.square()
        self.assertIs(is_parting_company(EVEN, ODD, 4, square), True)
        for many in [1, 3, 5, 14]:
            self.assertIs(is_parting_company(EVEN, ODD, many, square), False)
        for value in support.any_objects():
            if not isinstance(value, Company):
                self.assertIs(is_parting_company(EVEN, ODD, 1, value), False)

    def test_no_people_are_no_number(self):
        for function, args in [
            (are_alike, [EVEN, ODD]), (alike_manners, [EVEN]), (parting_company, [EVEN, ODD]), (real_manner, [EVEN]),
            (lets_all, [EVEN]), (lets_none, [EVEN]),
        ]:
            for many in [0, -1, True, False, "1"]:
                raised = support.error_of(function, args + [many])
                self.assertIs(type(raised), InvalidCount)
                self.assertIs(raised.value, many)


class Real(unittest.TestCase):
    def test_opposite_manners(self):
        for manner in MANNERS:
            other = opposite_manner(manner)
            self.assertTrue(calls.is_manner(other))
            self.assertEqual(opposite_manner(other), manner)
        for company in companies_to(4):
            for manner in MANNERS:
                self.assertEqual(Plain(opposite(company)).let(opposite_manner(manner)), Plain(company).let(manner))

    def test_real_manners_let_the_same(self):
        for company in support.small_companies():
            many = len(company.people())
            for manner in MANNERS:
                real, is_opposite = real_manner(manner, many)
                self.assertIs(type(is_opposite), bool)
                asked = opposite(company) if is_opposite else company
                self.assertEqual(Plain(asked).let(real), Plain(company).let(manner))

    def test_real_manners_by_the_words(self):
        for many in range(1, 15):
            for kinds, word in MANNERS:
                left = tuple(kind for kind in range(3) if kind not in kinds)
                other = word if many % 2 == 0 else ("odd" if word == "even" else "even")
                real = (kinds, word) if len(kinds) <= 1 else (left, other)
                expected = (((2,), real[1]), True) if real[0] == (0,) else (real, False)
                self.assertEqual(support.frozen(real_manner((kinds, word), many)), support.frozen(expected))
                self.assertIn(real_manner((kinds, word), many)[0][0], [(), (1,), (2,)])


if __name__ == "__main__":
    unittest.main()
