"""The rules of section 1, for every function of the landed modules."""

import copy
import inspect
import itertools
import unittest

from evenfriends.clubs import Table
from evenfriends.companies import Company
from evenfriends.errors import (
    Apart, FriendError, InvalidCompany, InvalidPairs, InvalidPeople, InvalidTable, NothingToRedo, Refused, Unlike,
)
from tests import calls, support


class WrongArguments(unittest.TestCase):
    def check(self, function, args, error, wrong):
        before = [support.frozen(value) for value in args]
        raised = support.error_of(function, args)
        self.assertIs(type(raised), error, (function.__name__, args))
        self.assertIs(raised.value, wrong, (function.__name__, args))
        self.assertEqual([support.frozen(value) for value in args], before, function.__name__)

    def test_each_argument_alone(self):
        for function, arguments in calls.CALLS + calls.CHANGING:
            for at, argument in enumerate(arguments):
                for wrong in argument.wrongs():
                    args = [copy.deepcopy(one.rights[0]) for one in arguments]
                    args[at] = wrong
                    self.check(function, args, argument.error, wrong)

    def test_the_first_of_several_is_raised(self):
        for function, arguments in calls.CALLS + calls.CHANGING:
            # What is judged comes last, and nothing is raised for it.
            lots = [argument.wrongs() or support.any_objects() for argument in arguments]
            for flags in itertools.product([False, True], repeat=len(arguments)):
                if sum(flags) < 2:
                    continue
                first = flags.index(True)
                for turn in range(max(len(lot) for lot in lots)):
                    args = [copy.deepcopy(one.rights[0]) for one in arguments]
                    for at, is_wrong in enumerate(flags):
                        if is_wrong:
                            args[at] = lots[at][(turn * (at + 1)) % len(lots[at])]
                    self.check(function, args, arguments[first].error, args[first])

    def test_wrong_arguments_by_name(self):
        for function, arguments in calls.CALLS + calls.CHANGING:
            for at, argument in enumerate(arguments):
                if argument.error is None:
                    continue
                wrong = argument.wrongs()[at]
                by_name = {one.name: one.rights[0] for one in arguments}
                by_name[argument.name] = wrong
                raised = support.error_of(function, [], by_name)
                self.assertIs(type(raised), argument.error)
                self.assertIs(raised.value, wrong)

    def test_objects_beyond_the_limits_raise_nothing_by_themselves(self):
        many = [one + other for one in "abcd" for other in "abcd"]
        company = Company(many, [])
        self.assertEqual(company.people(), sorted(many))


class UnlikeCompanies(unittest.TestCase):
    unlike = [Company(["a"], []), Company(["a", "b", "c"], []), Company(["a", "b", "c", "d", "e"], [("a", "b")])]
    unlike += [Company(["a", "b", "c", "e"], []), Company(["aa", "b", "c", "d"], [("b", "c")])]

    def check(self, function, args, error, wrong):
        raised = support.error_of(function, args)
        self.assertIs(type(raised), error, (function.__name__, args))
        self.assertIs(raised.value, wrong, (function.__name__, args))

    def test_unlike_alone_both_ways(self):
        for function, arguments in calls.OF_TWO:
            rest = [argument.rights[0] for argument in arguments[2:]]
            for other in self.unlike:
                one = calls.square()
                self.check(function, [one, other] + rest, Unlike, other)
                self.check(function, [other, one] + rest, Unlike, one)

    def test_no_company_is_told_ahead_of_unlike(self):
        for function, arguments in calls.OF_TWO:
            rest = [argument.rights[0] for argument in arguments[2:]]
            for wrong in arguments[0].wrongs():
                self.check(function, [wrong, self.unlike[0]] + rest, InvalidCompany, wrong)
                self.check(function, [self.unlike[0], wrong] + rest, InvalidCompany, wrong)
                self.check(function, [wrong, None] + rest, InvalidCompany, wrong)

    def test_unlike_is_told_ahead_of_what_stands_behind(self):
        tried = 0
        for function, arguments in calls.OF_TWO:
            for wrong in arguments[2].wrongs() if len(arguments) > 2 else []:
                args = [calls.square(), self.unlike[1], wrong] + [None] * (len(arguments) - 3)
                self.check(function, args, Unlike, args[1])
                tried += 1
        self.assertGreater(tried, 500)

    def test_all_functions_of_two_are_tried(self):
        taking = [row for row in calls.CALLS if [one.name for one in row[1]][:2] == ["one", "other"]]
        others = ["side_by_side", "are_alike", "parting_company", "is_parting_company"]
        others += ["is_club_road", "are_joined", "club_road"]
        left = [function.__name__ for function, _ in taking if function.__name__ not in others]
        self.assertEqual(left, [function.__name__ for function, _ in calls.OF_TWO])


class UnlikeTables(unittest.TestCase):
    unlike = [
        Table(["a", "b"], ["a", "x", "y"], []), Table(["a", "b", "c"], ["a", "x"], []),
        Table(["a", "b", "d"], ["a", "x", "y"], []), Table(["a", "b", "c"], ["a", "x", "z"], []), Table(["a"], ["x"], []),
    ]
    two = [calls.clubs.is_club_road, calls.clubs.are_joined, calls.clubs.club_road]

    def check(self, function, args, error, wrong):
        raised = support.error_of(function, args)
        self.assertIs(type(raised), error, (function.__name__, args))
        self.assertIs(raised.value, wrong, (function.__name__, args))

    def test_unlike_behind_no_table(self):
        for function in self.two:
            rest = [None] if function is calls.clubs.is_club_road else []
            for other in self.unlike:
                one = calls.a_square_table()
                self.check(function, [one, other] + rest, Unlike, other)
                self.check(function, [other, one] + rest, Unlike, one)
                for wrong in calls.a_table().wrongs():
                    self.check(function, [wrong, other] + rest, InvalidTable, wrong)
                    self.check(function, [other, wrong] + rest, InvalidTable, wrong)


class Judging(unittest.TestCase):
    def test_any_object_is_judged(self):
        for function, arguments in calls.CALLS:
            if arguments[-1].error is None:
                rights = [argument.rights[0] for argument in arguments[:-1]]
                for value in support.any_objects():
                    self.assertIs(type(function(*rights, value)), bool, function.__name__)

    def test_none_is_never_such_a_thing(self):
        for function, arguments in calls.CALLS:
            if arguments[-1].error is None:
                for lot in itertools.product(*[argument.rights for argument in arguments[:-1]]):
                    self.assertIs(function(*lot, None), False, function.__name__)

    def test_the_last_parameter_of_those_that_judge_is_called_value(self):
        judging = [function.__name__ for function, arguments in calls.CALLS if arguments[-1].error is None]
        self.assertEqual(len(judging), 29)
        for function, arguments in calls.CALLS:
            self.assertEqual("value" in inspect.signature(function).parameters, function.__name__ in judging)
            self.assertNotIn("value", [argument.name for argument in arguments[:-1]])


class Calls(unittest.TestCase):
    def test_parameters_have_the_names_of_the_interface(self):
        for function, arguments in calls.CALLS:
            names = list(inspect.signature(function).parameters)
            self.assertEqual(names, [argument.name for argument in arguments], function.__name__)

    def test_by_position_and_by_name_tells_the_same(self):
        names = {function: [argument.name for argument in arguments] for function, arguments in calls.CALLS}
        for function, args in calls.right_calls():
            by_position = function(*args)
            by_name = function(**dict(reversed(list(zip(names[function], args)))))
            self.assertEqual(support.frozen(by_position), support.frozen(by_name), function.__name__)

    def test_what_is_passed_stays(self):
        for function, args in calls.right_calls():
            before = support.frozen(args)
            function(*args)
            self.assertEqual(support.frozen(args), before, function.__name__)

    def test_what_is_returned_may_be_changed(self):
        for function, args in calls.right_calls():
            first = function(*args)
            told = support.frozen(first)
            before = support.frozen(args)
            spoil_all(first)
            self.assertEqual(support.frozen(args), before, function.__name__)
            self.assertEqual(support.frozen(function(*args)), told, function.__name__)

    def test_what_was_passed_may_be_changed_afterwards(self):
        for function, args in calls.right_calls():
            first = function(*args)
            told = support.frozen(first)
            spoil_all(args)
            self.assertEqual(support.frozen(first), told, function.__name__)

    def test_asked_again_with_others_between(self):
        asked = list(calls.right_calls())
        first = [support.frozen(function(*args)) for function, args in asked]
        for company in support.small_companies():
            support.frozen(company)
            calls.companies.friend_numbers(company)
            calls.triples.triple_numbers(company)
        second = [support.frozen(function(*args)) for function, args in reversed(asked)]
        self.assertEqual(list(reversed(second)), first)

    def test_calls_with_equal_companies_made_otherwise(self):
        for function, args in calls.right_calls():
            told = support.frozen(function(*args))
            others = [made_again(one) for one in args]
            self.assertEqual(support.frozen(function(*others)), told, function.__name__)

    def test_a_refused_call_changes_nothing_that_is_told_later(self):
        told = [support.frozen(function(*args)) for function, args in calls.right_calls()]
        for function, arguments in calls.CALLS:
            for at, argument in enumerate(arguments):
                for wrong in argument.wrongs():
                    args = [one.rights[0] for one in arguments]
                    support.error_of(function, args[:at] + [wrong] * (len(args) - at))
        self.assertEqual([support.frozen(function(*args)) for function, args in calls.right_calls()], told)


def made_again(value):
    """An equal company, or table, made of the same lists in another order; what is neither as it is."""
    if isinstance(value, Company):
        return Company(value.people()[::-1], value.friends()[::-1])
    if isinstance(value, Table):
        return Table(value.people()[::-1], value.clubs()[::-1], value.members()[::-1])
    return value


def spoil_all(value):
    """Change the lists and dictionaries of a value, and what a company within it gives out."""
    support.spoil(value)
    for one in value if isinstance(value, (list, tuple)) else [value]:
        if isinstance(one, Company):
            support.spoil(one.people())
            support.spoil(one.friends())
        if isinstance(one, Table):
            for lot in [one.people(), one.clubs(), one.members()]:
                support.spoil(lot)


class CompaniesStay(unittest.TestCase):
    def test_a_company_keeps_no_list_of_the_caller(self):
        people, friends = ["b", "a", "c"], [("b", "c"), ("a", "b")]
        company = Company(people, friends)
        people.append("d")
        friends.clear()
        self.assertEqual((company.people(), company.friends()), (["a", "b", "c"], [("a", "b"), ("b", "c")]))

    def test_a_company_gives_out_new_lists(self):
        company = Company(["b", "a"], [("a", "b")])
        company.people().append("c")
        company.friends().clear()
        self.assertEqual((company.people(), company.friends()), (["a", "b"], [("a", "b")]))

    def test_the_error_of_a_company_holds_the_lists_themselves(self):
        people, friends = ["a", "a"], [("a", "c")]
        self.assertIs(support.error_of(Company, [people, friends]).value, people)
        self.assertIs(type(support.error_of(Company, [people, friends])), InvalidPeople)
        self.assertIs(support.error_of(Company, [["a", "b"], friends]).value, friends)
        self.assertIs(type(support.error_of(Company, [["a", "b"], friends])), InvalidPairs)

    def test_companies_are_never_equal_to_others(self):
        company = Company(["a"], [])
        for other in support.any_objects() + [FriendError(), Refused(company), Apart(), NothingToRedo(), Company]:
            if not isinstance(other, Company):
                self.assertIs(company == other, False)
                self.assertIs(other == company, False)
                self.assertIs(company != other, True)
                self.assertIs(other != company, True)


if __name__ == "__main__":
    unittest.main()
