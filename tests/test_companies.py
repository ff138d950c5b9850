"""Points [10] to [16]: companies."""

import itertools
import unittest

from evenfriends.companies import (
    Company, are_friends, changed, changed_by, company_at, company_number, cone, cut_to, friend_numbers, friends_of,
    is_pair, is_person, opposite, renamed, side_by_side, strangers,
)
from evenfriends.errors import (
    InvalidChange, InvalidChanges, InvalidCompany, InvalidCount, InvalidNames, InvalidPair, InvalidPeople,
    InvalidPerson,
)
from tests import support

NINE = ["a", "b", "c", "d", "e", "f", "g", "h", "i"]
ALL_OF_NINE = list(itertools.combinations(NINE, 2))


def pairs_of(company):
    return list(itertools.combinations(company.people(), 2))


class Forms(unittest.TestCase):
    def test_is_person(self):
        for value in ["a", "z", "ab", "zzzzzzzz", "come", "abcdefgh"]:
            self.assertIs(is_person(value), True)
        for value in ["", "abcdefghi", "A", "a ", "a-b", "a\n", "0", "`", "{", None, ["a"], ("a",), 1, True]:
            self.assertIs(is_person(value), False)

    def test_is_pair(self):
        for value in [("a", "b"), ("a", "aa"), ("ab", "b"), ("abcdefgh", "abcdefgi")]:
            self.assertIs(is_pair(value), True)
        wrong = [("b", "a"), ("a", "a"), ["a", "b"], ("a",), ("a", "b", "c"), ("a", "B"), ("", "a"), "ab", (), ("a", 1)]
        for value in wrong:
            self.assertIs(is_pair(value), False)

    def test_any_object(self):
        for value in support.any_objects():
            self.assertIs(is_person(value), support.is_word(value))
            self.assertIs(is_person(value=value), support.is_word(value))
            self.assertIs(is_pair(value), support.is_pair(value))
            self.assertIs(is_pair(value=value), support.is_pair(value))
            for other in support.any_objects():
                self.assertIs(is_pair((value, other)), support.is_pair((value, other)))
                self.assertIs(is_pair([value, other]), False)


class Companies(unittest.TestCase):
    def test_lists_are_ascending(self):
        company = Company(["b", "aa", "c", "a"], [("b", "c"), ("a", "c"), ("a", "aa")])
        self.assertEqual(company.people(), ["a", "aa", "b", "c"])
        self.assertEqual(company.friends(), [("a", "aa"), ("a", "c"), ("b", "c")])

    def test_one_person(self):
        company = Company(["z"], [])
        self.assertEqual((company.people(), company.friends()), (["z"], []))

    def test_nine_people(self):
        company = Company(list(reversed(NINE)), list(reversed(ALL_OF_NINE)))
        self.assertEqual((company.people(), company.friends()), (NINE, ALL_OF_NINE))

    def test_equal_exactly_if_both_lists_are(self):
        lot = list(support.all_companies(["a", "b", "c"])) + list(support.all_companies(["a", "b"]))
        lot += list(support.all_companies(["a", "b", "d"])) + [Company(["a"], []), Company(["b"], [])]
        for one in lot:
            again = Company(list(reversed(one.people())), list(reversed(one.friends())))
            self.assertIs(one == again, True)
            self.assertIs(one != again, False)
            for other in lot:
                self.assertIs(one == other, one is other)
                self.assertIs(one != other, one is not other)

    def test_the_same_people_without_some_friends_are_unlike(self):
        self.assertIs(Company(["a", "b"], []) == Company(["a", "b"], [("a", "b")]), False)
        self.assertIs(Company(["a", "b"], []) == Company(["a", "b", "c"], []), False)


class Friends(unittest.TestCase):
    def test_strangers_friends_and_numbers(self):
        for company in support.small_companies():
            friends, people = company.friends(), company.people()
            self.assertEqual(strangers(company), [pair for pair in pairs_of(company) if pair not in friends])
            expected = {}
            for person in people:
                circle = [one for one in people if (one, person) in friends or (person, one) in friends]
                self.assertEqual(friends_of(company, person), circle)
                expected[person] = len(circle)
            self.assertEqual(list(friend_numbers(company).items()), list(expected.items()))
            for pair in pairs_of(company):
                self.assertIs(are_friends(company, pair), pair in friends)

    def test_one_person(self):
        one = Company(["z"], [])
        self.assertEqual([strangers(one), friends_of(one, "z"), friend_numbers(one)], [[], [], {"z": 0}])

    def test_nine_people(self):
        for friends, left in [(ALL_OF_NINE, []), ([], ALL_OF_NINE)]:
            company = Company(NINE, friends)
            self.assertEqual(strangers(company), left)
            self.assertEqual(friend_numbers(company), {person: 8 if friends else 0 for person in NINE})

    def test_a_company_of_one_has_no_pair(self):
        raised = support.error_of(are_friends, [Company(["a"], []), ("a", "b")])
        self.assertEqual((type(raised), raised.value), (InvalidPair, ("a", "b")))

    def test_people_of_others_are_refused(self):
        raised = support.error_of(friends_of, [Company(["a"], []), "b"])
        self.assertEqual((type(raised), raised.value), (InvalidPerson, "b"))


class Changes(unittest.TestCase):
    def setUp(self):
        self.path = Company(["a", "b", "c"], [("a", "b"), ("b", "c")])

    def test_each_change(self):
        self.assertEqual(changed(self.path, ("come", "aa")), Company(["a", "aa", "b", "c"], [("a", "b"), ("b", "c")]))
        self.assertEqual(changed(self.path, ("leave", "b")), Company(["a", "c"], []))
        self.assertEqual(changed(self.path, ("leave", "a")), Company(["b", "c"], [("b", "c")]))
        triangle = Company(["a", "b", "c"], [("a", "b"), ("a", "c"), ("b", "c")])
        self.assertEqual(changed(self.path, ("befriend", ("a", "c"))), triangle)
        self.assertEqual(changed(self.path, ("part", ("a", "b"))), Company(["a", "b", "c"], [("b", "c")]))
        self.assertEqual(self.path.friends(), [("a", "b"), ("b", "c")])

    def test_all_pairs_of_small_companies(self):
        for company in support.small_companies():
            for pair in pairs_of(company):
                are = pair in company.friends()
                fit, unfit = ("part", "befriend") if are else ("befriend", "part")
                left = [one for one in company.friends() if one != pair]
                expected = left if are else sorted(left + [pair])
                self.assertEqual(changed(company, (fit, pair)), Company(company.people(), expected))
                change = (unfit, pair)
                raised = support.error_of(changed, [company, change])
                self.assertIs(type(raised), InvalidChange)
                self.assertIs(raised.value, change)

    def test_the_last_one_stays(self):
        for person in ["a", "b"]:
            raised = support.error_of(changed, [Company(["a"], []), ("leave", person)])
            self.assertIs(type(raised), InvalidChange)
        self.assertEqual(changed(Company(["a", "b"], [("a", "b")]), ("leave", "a")), Company(["b"], []))

    def test_a_list_of_changes(self):
        self.assertEqual(changed_by(self.path, []), self.path)
        changes = [("come", "d"), ("befriend", ("a", "d")), ("leave", "b"), ("part", ("a", "d")), ("come", "b")]
        self.assertEqual(changed_by(self.path, changes), Company(["a", "b", "c", "d"], []))
        self.assertEqual(changed_by(self.path, changes[:3]), Company(["a", "c", "d"], [("a", "d")]))

    def test_fitting_is_judged_behind_those_ahead(self):
        for changes, at in [
            ([("come", "d"), ("come", "d")], 1),
            ([("leave", "a"), ("part", ("a", "b"))], 1),
            ([("befriend", ("a", "d")), ("come", "d")], 0),
            ([("leave", "a"), ("leave", "b"), ("leave", "c")], 2),
            ([("part", ("a", "b")), ("befriend", ("a", "b")), ("befriend", ("a", "b")), ("come", "a")], 2),
        ]:
            raised = support.error_of(changed_by, [self.path, changes])
            self.assertIs(type(raised), InvalidChange)
            self.assertIs(raised.value, changes[at])

    def test_the_form_of_all_is_judged_first(self):
        changes = [("come", "a"), ("come", "A")]
        raised = support.error_of(changed_by, [self.path, changes])
        self.assertIs(type(raised), InvalidChanges)
        self.assertIs(raised.value, changes)


class MadeFromOthers(unittest.TestCase):
    def test_opposite(self):
        for company in support.small_companies():
            other = opposite(company)
            self.assertEqual(other.people(), company.people())
            self.assertEqual(sorted(other.friends() + company.friends()), pairs_of(company))
            self.assertEqual(opposite(other), company)

    def test_cone(self):
        for company in support.small_companies():
            for person in ["aa", "z"]:
                made = cone(company, person)
                people = sorted(company.people() + [person])
                pairs = itertools.combinations(people, 2)
                friends = [pair for pair in pairs if person in pair or pair in company.friends()]
                self.assertEqual((made.people(), made.friends()), (people, friends))

    def test_side_by_side(self):
        one, other = Company(["c", "a"], [("a", "c")]), Company(["b", "d", "e"], [("b", "e")])
        both = Company(["a", "b", "c", "d", "e"], [("a", "c"), ("b", "e")])
        self.assertEqual(side_by_side(one, other), both)
        self.assertEqual(side_by_side(other, one), both)

    def test_side_by_side_with_a_person_in_both(self):
        one, other = Company(["a", "b"], []), Company(["d", "b"], [("b", "d")])
        for first, second in [(one, other), (other, one), (one, one)]:
            raised = support.error_of(side_by_side, [first, second])
            self.assertIs(type(raised), InvalidPeople)
            self.assertEqual(raised.value, second.people())
            raised.value.clear()
            self.assertEqual(len(second.people()), 2)

    def test_side_by_side_asks_for_companies_first(self):
        one = Company(["a"], [])
        self.assertIs(support.error_of(side_by_side, [None, one]).value, None)
        self.assertIs(type(support.error_of(side_by_side, [one, ["a"]])), InvalidCompany)

    def test_cut_to(self):
        for company in support.small_companies():
            people = company.people()
            for size in range(1, len(people) + 1):
                for lot in itertools.permutations(people, size):
                    made = cut_to(company, list(lot))
                    self.assertEqual(made.people(), sorted(lot))
                    inside = [pair for pair in company.friends() if pair[0] in lot and pair[1] in lot]
                    self.assertEqual(made.friends(), inside)

    def test_renamed(self):
        path = Company(["a", "b", "c"], [("a", "b"), ("b", "c")])
        new = Company(["x", "y", "z"], [("x", "y"), ("y", "z")])
        self.assertEqual(renamed(path, {"a": "z", "b": "y", "c": "x"}), new)
        star = Company(["a", "b", "c"], [("a", "b"), ("a", "c")])
        self.assertEqual(renamed(path, {"c": "b", "b": "a", "a": "c"}), star)
        self.assertEqual(renamed(path, {"a": "a", "b": "b", "c": "c"}), path)
        self.assertEqual(renamed(Company(["a"], []), {"a": "b"}), Company(["b"], []))

    def test_renaming_by_all_orders(self):
        for company in list(support.all_companies(["a", "b", "c"])):
            for order in itertools.permutations(["b", "c", "x"]):
                names = dict(zip(["a", "b", "c"], order))
                friends = sorted(tuple(sorted([names[one], names[other]])) for one, other in company.friends())
                self.assertEqual(renamed(company, names), Company(["b", "c", "x"], friends))

    def test_no_empty_names(self):
        raised = support.error_of(renamed, [Company(["a"], []), {}])
        self.assertIs(type(raised), InvalidNames)


class Numbers(unittest.TestCase):
    def test_all_of_some(self):
        for people in [["a"], ["b", "a"], ["c", "a", "b"], ["d", "b", "a", "c"]]:
            pairs = list(itertools.combinations(sorted(people), 2))
            for number in range(2 ** len(pairs)):
                company = company_at(people, number)
                self.assertEqual(company.people(), sorted(people))
                self.assertEqual(company.friends(), [pair for at, pair in enumerate(pairs) if number // 2 ** at % 2])
                self.assertEqual(company_number(company), number)
            for number in [2 ** len(pairs), 2 ** len(pairs) + 1, -1, True, False]:
                raised = support.error_of(company_at, [people, number])
                self.assertIs(type(raised), InvalidCount)
                self.assertIs(raised.value, number)

    def test_nine_people(self):
        last = 2 ** 36 - 1
        self.assertEqual(company_at(NINE, last), Company(NINE, ALL_OF_NINE))
        self.assertEqual(company_number(Company(NINE, ALL_OF_NINE)), last)
        self.assertEqual(company_number(Company(NINE, [("h", "i")])), 2 ** 35)
        self.assertEqual(company_at(NINE, 2 ** 35 + 1), Company(NINE, [("a", "b"), ("h", "i")]))
        self.assertIs(type(support.error_of(company_at, [NINE, last + 1])), InvalidCount)

    def test_one_person_has_number_nought_alone(self):
        self.assertEqual(company_at(["a"], 0), Company(["a"], []))
        self.assertIs(type(support.error_of(company_at, [["a"], 1])), InvalidCount)


if __name__ == "__main__":
    unittest.main()
