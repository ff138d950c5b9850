"""Points [64] to [71]: lone companies."""

import functools
import itertools
import random
import unittest

from evenfriends.companies import Company, opposite
from evenfriends.errors import InvalidCount, InvalidLabels, InvalidManner, InvalidPeople
from evenfriends.lones import (
    are_crossing_labels, are_even, are_sharing_labels, crossing_company, crossing_labels, is_lone, lone_at,
    lone_companies, lone_halves, lone_parts, lone_place, sharing_company, sharing_labels, some_let, strangers_lone,
)
from tests import calls, support
from tests.plain import EVEN, MANNERS, ODD, Plain, TIES_ODD

NINE = ["a", "b", "c", "d", "e", "f", "g", "h", "i"]


def all_pairs(people):
    return list(itertools.combinations(sorted(people), 2))


def does_cross(one, other):
    return sum(one[at] * other[at + 1] + one[at + 1] * other[at] for at in range(0, len(one), 2)) % 2 == 1


def does_share(one, other):
    return sum(first * second for first, second in zip(one, other)) % 2 == 1


def by_labels(labels, rule):
    return Company(list(labels), [pair for pair in all_pairs(labels) if rule(labels[pair[0]], labels[pair[1]])])


def plain_even(labels):
    columns = list(zip(*labels.values()))
    both = [sum(first * second for first, second in zip(*two)) for two in itertools.combinations(columns, 2)]
    return not any(number % 2 for number in both + [sum(column) for column in columns])


def is_for_crossing(value):
    return calls.is_labels(value) and all(len(label) % 2 == 0 for label in value.values())


def is_for_sharing(value):
    return calls.is_labels(value) and all(sum(label) % 2 for label in value.values())


def all_labels(people, places):
    return [dict(zip(people, lot)) for lot in itertools.product(itertools.product((0, 1), repeat=places), repeat=len(people))]


@functools.lru_cache(maxsize=None)
def fewest_places(many):
    """For each company of so many people the fewest places of crossing and of sharing labels, by trying all."""
    people = NINE[:many]
    crossing, sharing = {}, {}
    for places in range(many + 1):
        for labels in all_labels(people, places):
            if places % 2 == 0:
                crossing.setdefault(tuple(by_labels(labels, does_cross).friends()), places)
            if all(sum(label) % 2 for label in labels.values()):
                sharing.setdefault(tuple(by_labels(labels, does_share).friends()), places)
    return crossing, sharing


def rank(rows):
    """The rank of rows of bits by two at a time: the fewest places that labels can have."""
    rows, found = list(rows), 0
    while rows:
        row = rows.pop()
        if row:
            found += 1
            rows = [other ^ row if other & row & -row else other for other in rows]
    return found


def rows_of(company, own):
    plain = Plain(company)
    people = plain.people
    return [
        sum(1 << at for at, other in enumerate(people) if plain.are(one, other) or own and one == other)
        for one in people
    ]


def some_of_nine(seed, many):
    chance = random.Random(seed)
    for at in range(many):
        share = [0.1, 0.3, 0.5, 0.7, 0.9][at % 5]
        yield Company(NINE, [pair for pair in all_pairs(NINE) if chance.random() < share])


def companies_to(many):
    for size in range(1, many + 1):
        yield from support.all_companies(NINE[:size])


def lone_ones():
    """Companies that are lone under common friends odd: all of few people, and some of many."""
    for company in companies_to(5):
        if not Plain(company).let(ODD):
            yield company
    chance = random.Random(4)
    for _ in range(40):
        # Twins have the same friends: every number is even. Two who are friends, with the same friends, are wholly odd.
        half = chance.randint(3, 4)
        inner = [pair for pair in itertools.combinations(range(half), 2) if chance.random() < 0.5]
        names = chance.sample(NINE, 2 * half)
        twins = [(2 * one + i, 2 * other + j) for one, other in inner for i in (0, 1) for j in (0, 1)]
        if chance.random() < 0.5:
            twins += [(2 * at, 2 * at + 1) for at in range(half)]
        yield Company(names, [tuple(sorted([names[one], names[other]])) for one, other in twins])


class Lone(unittest.TestCase):
    def test_lone_and_the_first_let(self):
        for company in itertools.chain(support.small_companies(), some_of_nine(1, 20)):
            for manner in MANNERS:
                let = Plain(company).let(manner)
                self.assertIs(is_lone(company, manner), let == [])
                self.assertEqual(some_let(company, manner), let[0] if let else None)

    def test_one_person_is_lone_under_every_manner(self):
        one = Company(["z"], [])
        for manner in MANNERS:
            self.assertEqual((is_lone(one, manner), some_let(one, manner)), (True, None))
            self.assertEqual((lone_companies(["z"], manner), lone_at(["z"], manner, 0)), ([one], one))
            self.assertEqual(lone_place(one, manner), 0)
        self.assertEqual(lone_halves(one), (one, None))
        self.assertEqual((lone_parts(one), strangers_lone(one)), (({"z": ()}, {}), {"z": ()}))

    def test_lone_halves(self):
        for company in itertools.chain(companies_to(5), lone_ones(), some_of_nine(2, 20)):
            plain = Plain(company)
            if plain.let(ODD):
                self.assertIs(lone_halves(company), None)
                continue
            odd = plain.odd_people()
            even = [person for person in plain.people if person not in odd]
            expected = tuple(plain.cut(lot).company() if lot else None for lot in (even, odd))
            self.assertEqual(lone_halves(company), expected)
            self.assertFalse(any(plain.are(one, other) for one in even for other in odd))


class Labels(unittest.TestCase):
    def check(self, company, labels, places, rule):
        self.assertEqual(list(labels), company.people())
        self.assertTrue(calls.is_labels(labels))
        self.assertEqual({len(label) for label in labels.values()}, {places})
        self.assertEqual(by_labels(labels, rule), company)

    def test_as_few_places_as_can_be(self):
        for company in companies_to(4):
            crossing, sharing = fewest_places(len(company.people()))
            friends = tuple(company.friends())
            self.check(company, crossing_labels(company), crossing[friends], does_cross)
            labels = sharing_labels(company)
            self.check(company, labels, sharing[friends], does_share)
            self.assertTrue(is_for_sharing(labels))

    def test_more_people(self):
        for company in itertools.chain(list(support.all_companies(NINE[:5]))[::9], some_of_nine(3, 60), lone_ones()):
            crossing, sharing = crossing_labels(company), sharing_labels(company)
            self.check(company, crossing, rank(rows_of(company, False)), does_cross)
            self.check(company, sharing, rank(rows_of(company, True)), does_share)
            self.assertTrue(is_for_sharing(sharing))
            self.assertIs(are_crossing_labels(company, crossing), True)
            self.assertIs(are_sharing_labels(company, sharing), True)

    def test_judged_of_all_labels_of_two_and_three(self):
        for many, places in [(1, 3), (2, 3), (3, 2)]:
            people = NINE[:many]
            for company in support.all_companies(people):
                for size in range(places + 1):
                    for labels in all_labels(people, size):
                        crossing = size % 2 == 0 and by_labels(labels, does_cross) == company
                        self.assertIs(are_crossing_labels(company, labels), crossing)
                        sharing = is_for_sharing(labels) and by_labels(labels, does_share) == company
                        self.assertIs(are_sharing_labels(company, labels), sharing)

    def test_labels_of_others_are_none(self):
        two = Company(["a", "b"], [])
        for labels in [{"a": (0, 0)}, {"a": (0, 0), "b": (0, 0), "c": (0, 0)}, {"a": (0, 0), "c": (0, 0)}, {}]:
            self.assertIs(are_crossing_labels(two, labels), False)
        for labels in [{"a": (1, 0)}, {"a": (1, 0), "b": (0, 1), "c": (0, 1)}, {"a": (1, 0), "c": (0, 1)}, {}]:
            self.assertIs(are_sharing_labels(two, labels), False)

    def test_more_places_and_any_order(self):
        two = Company(["a", "b"], [("a", "b")])
        for labels in [{"b": (1, 0, 1, 1), "a": (0, 1, 1, 1)}, {"a": (1, 0, 0, 0, 1, 0), "b": (0, 1, 0, 0, 1, 0)}]:
            self.assertIs(are_crossing_labels(two, labels), True)
        for labels in [{"b": (1, 1, 1, 0), "a": (0, 0, 1, 0)}, {"a": (1, 1, 1), "b": (1, 1, 1)}]:
            self.assertIs(are_sharing_labels(two, labels), True)

    def test_any_object_is_judged(self):
        one, two = Company(["a"], []), Company(["a", "b"], [])
        wrong = calls.crossing().near + calls.sharing().near + support.any_objects()
        for company in [one, two]:
            for value in wrong:
                right = is_for_crossing(value) and by_labels(value, does_cross) == company
                self.assertIs(are_crossing_labels(company, value), right)
                right = is_for_sharing(value) and by_labels(value, does_share) == company
                self.assertIs(are_sharing_labels(company, value), right)

    def test_companies_by_labels(self):
        for many, places in [(1, 4), (2, 3), (3, 2)]:
            for size in range(places + 1):
                for labels in all_labels(NINE[:many][::-1], size):
                    for made, fits, rule in [
                        (crossing_company, is_for_crossing, does_cross), (sharing_company, is_for_sharing, does_share),
                    ]:
                        if fits(labels):
                            self.assertEqual(made(labels), by_labels(labels, rule))
                        else:
                            raised = support.error_of(made, [labels])
                            self.assertIs(type(raised), InvalidLabels)
                            self.assertIs(raised.value, labels)

    def test_labels_of_length_nought(self):
        self.assertEqual(crossing_company({"b": (), "a": ()}), Company(["a", "b"], []))
        self.assertIs(are_even({"a": ()}), True)
        self.assertIs(type(support.error_of(sharing_company, [{"a": ()}])), InvalidLabels)
        self.assertEqual(crossing_labels(Company(["b", "a"], [])), {"a": (), "b": ()})

    def test_are_even(self):
        for many, places in [(1, 3), (2, 3), (3, 2), (4, 2)]:
            for size in range(places + 1):
                for labels in all_labels(NINE[:many], size):
                    self.assertIs(are_even(labels), plain_even(labels))
        four = {"a": (1, 1), "b": (1, 0), "c": (0, 1), "d": (0, 0)}
        self.assertIs(are_even(four), False)
        self.assertIs(are_even({**four, "d": (1, 1), "e": (1, 0), "f": (0, 1)}), True)

    def test_lone_parts(self):
        met = 0
        for company in itertools.chain(companies_to(4), lone_ones(), some_of_nine(5, 10)):
            if Plain(company).let(ODD):
                self.assertIs(lone_parts(company), None)
                continue
            met += 1
            for half, labels, own in zip(lone_halves(company), lone_parts(company), (False, True)):
                if half is None:
                    self.assertEqual(labels, {})
                else:
                    self.check(half, labels, rank(rows_of(half, own)), does_share if own else does_cross)
                    self.assertTrue(plain_even(labels))
                    self.assertTrue(not own or is_for_sharing(labels))
        self.assertGreater(met, 60)

    def test_strangers_lone(self):
        met = 0
        lones = [opposite(company) for company in lone_ones()]
        for company in itertools.chain(companies_to(5), lones, some_of_nine(6, 10)):
            labels = strangers_lone(company)
            if Plain(company).let(EVEN):
                self.assertIs(labels, None)
            else:
                met += 1
                self.check(opposite(company), labels, rank(rows_of(opposite(company), False)), does_cross)
                self.assertTrue(plain_even(labels))
        self.assertGreater(met, 17)


class Lists(unittest.TestCase):
    def test_all_lone_companies(self):
        for many in range(1, 6):
            lot = list(support.all_companies(NINE[:many]))
            for manner in MANNERS:
                expected = sorted(company.friends() for company in lot if is_lone(company, manner))
                found = lone_companies(NINE[:many][::-1], manner)
                self.assertEqual([company.friends() for company in found], expected)
                self.assertTrue(all(company.people() == NINE[:many] for company in found))

    def test_is_lone_rests_on_what_is_let(self):
        for company in companies_to(4):
            for manner in MANNERS:
                self.assertIs(is_lone(company, manner), Plain(company).let(manner) == [])

    def test_positions(self):
        for many in range(1, 5):
            people = NINE[:many][::-1]
            for manner in MANNERS:
                found = lone_companies(people, manner)
                for at, company in enumerate(found):
                    self.assertEqual(lone_at(people, manner, at), company)
                    self.assertEqual(lone_place(company, manner), at)
                for number in [len(found), len(found) + 1, -1, True, None]:
                    raised = support.error_of(lone_at, [people, manner, number])
                    self.assertIs(type(raised), InvalidCount)
                    self.assertIs(raised.value, number)

    def test_places_of_companies_that_are_not_lone(self):
        for company in companies_to(4):
            for manner in MANNERS:
                self.assertEqual(lone_place(company, manner) is None, not is_lone(company, manner))

    def test_six_people(self):
        six = NINE[:6]
        self.assertEqual([len(lone_companies(NINE[:many], ODD)) for many in range(1, 7)], [1, 2, 4, 14, 46, 272])
        self.assertEqual([len(lone_companies(NINE[:many], EVEN)) for many in range(1, 7)], [1, 0, 1, 0, 16, 0])
        self.assertEqual(len(lone_companies(six, TIES_ODD)), 2048)
        found = lone_companies(six, ODD)
        self.assertEqual([company.friends() for company in found], sorted(company.friends() for company in found))
        for number in [0, 100, 271]:
            self.assertEqual(lone_at(six, ODD, number), found[number])
            self.assertEqual(lone_place(found[number], ODD), number)
        self.assertIs(type(support.error_of(lone_at, [six, ODD, 272])), InvalidCount)
        self.assertEqual(lone_at(six, ((), "odd"), 2 ** 15 - 1), Company(six, all_pairs(six)[-1:]))
        self.assertEqual(lone_companies(six, ((0, 1, 2), "even")), [])

    def test_the_order_of_errors(self):
        people, manner = ["a", "a"], "even"
        for function, args in [(lone_companies, []), (lone_at, [None])]:
            raised = support.error_of(function, [people, manner] + args)
            self.assertEqual((type(raised), raised.value is people), (InvalidPeople, True))
            raised = support.error_of(function, [["a"], manner] + args)
            self.assertEqual((type(raised), raised.value is manner), (InvalidManner, True))


if __name__ == "__main__":
    unittest.main()
