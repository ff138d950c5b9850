"""Over the whole program: what one module tells fits what the others tell; however a company was made, it is the same."""

import itertools
import random
import unittest

from evenfriends.anyway import class_of, fewest_deeds, joined, road_between, shared_class, why_apart
from evenfriends.clubs import Table, club_road, home_road, least_table, moved, table_behind, with_club, with_person
from evenfriends.companies import (
    Company, changed, company_at, company_number, cone, cut_to, opposite, renamed, side_by_side, strangers,
)
from evenfriends.evens import fewest_evenly, joined_evenly, least_evenly
from evenfriends.errors import Apart, FriendError, Refused
from evenfriends.house import House, replayed
from evenfriends.lones import crossing_company, crossing_labels, is_lone, lone_companies, some_let
from evenfriends.manners import is_let, let_number, let_pairs, opposite_manner, real_manner
from evenfriends.newcomers import either_joined, either_lets, fewest_newcomers, with_newcomers
from evenfriends.numbers import (
    class_count, class_sizes, even_by_rank, is_wholly_even, joined_tuples, lone_count, rank_of, tie_class,
)
from evenfriends.odds import headed, joined_oddly, least_oddly, parts_of
from evenfriends.papers import (
    company_text, read_company, read_road, read_table, road_text, table_text, read_wishes, wishes_text,
)
from evenfriends.roads import companies_on, is_road, leads_to, led, road_back
from evenfriends.scripts import end_of, play, read_script, script_text, shortened
from evenfriends.ties import tie_joined
from evenfriends.triples import odd_people, triple_numbers
from evenfriends.wishes import (
    company_for, fewest_in_class, forced, many_met, met_at, met_with, rest_of, surplus, wished_company,
)
from tests import calls, support
from tests.plain import EVEN, MANNERS, ODD, TIES_EVEN, TIES_ODD

FOUR = ["a", "b", "c", "d"]
FIVE = FOUR + ["e"]


# What is asked of at most five people, as whole classes are searched.
OF_FIVE = [
    "class_of", "class_by_deeds", "deeds_to_friends", "road_to_friends", "is_road_to_friends", "farthest_in_class",
    "shared_class", "lone_place", "forced", "many_met", "met_at", "roads_of", "road_at", "road_place",
]


def some_company(chance, people):
    share = chance.choice([0.1, 0.4, 0.7, 0.9])
    return Company(people, [pair for pair in itertools.combinations(people, 2) if chance.random() < share])


class Fitting(unittest.TestCase):
    def test_of_two_companies(self):
        chance = random.Random(1)
        for _ in range(60):
            one, other = some_company(chance, FOUR), some_company(chance, FOUR)
            manner = chance.choice(MANNERS)
            self.check_two(one, other, manner)
        for manner in [EVEN, ODD, TIES_EVEN, TIES_ODD]:
            for one, other in itertools.product(support.all_companies(FOUR[:3]), repeat=2):
                self.check_two(one, other, manner)

    def check_two(self, one, other, manner):
        told = joined(one, other, manner)
        lot = class_of(one, manner)
        self.assertIs(other in lot, told)
        road = road_between(one, other, manner)
        self.assertIs(road is not None, told)
        self.assertIs(why_apart(one, other, manner) is None, told)
        self.assertIs(fewest_deeds(one, other, manner) is not None, told)
        self.assertIs(either_joined(one, other, sorted([manner, ((), "odd")])), told) if manner != ((), "odd") else None
        own = {EVEN: joined_evenly, ODD: joined_oddly}.get(manner)
        self.assertIs(own(one, other) if own else told, told)
        if manner[0] == (1,):
            self.assertIs(tie_joined(one, other, manner[1]), told)
        self.check_house(one, other, manner, told)
        if manner in [EVEN, ODD, TIES_EVEN, TIES_ODD]:
            self.assertIs(fewest_newcomers(one, other, manner) == 0, told)
        if told:
            self.assertTrue(leads_to(one, other, manner, road))
            self.assertEqual(led(other, manner, road_back(one, manner, road)), one)
            self.assertLessEqual(fewest_deeds(one, other, manner), len(road))
            self.assertEqual(road_text(read_road(road_text(road))), road_text(road))

    def check_house(self, one, other, manner, told):
        house = House()
        house.put(one, manner)
        house.put(other, manner)
        self.assertEqual(house.joined_spots(0), [1] if told else [])
        wishes = {pair: pair in other.friends() for pair in itertools.combinations(one.people(), 2)}
        try:
            house.exchange(0, other)
            house.undo()
            house.wish(0, wishes)
            self.assertTrue(told)
        except (Apart, Refused):
            self.assertFalse(told)
            return
        self.assertEqual(led(one, manner, house.way(0)), other)
        house.swap(0, 1)
        self.assertIs(house.is_met(0), True)

    def test_of_one_company(self):
        chance = random.Random(2)
        for _ in range(80):
            company = some_company(chance, FIVE[:chance.randint(1, 5)])
            for manner in chance.sample(MANNERS, 4):
                let = let_pairs(company, manner)
                self.assertEqual(let_number(company, manner), len(let))
                self.assertIs(is_lone(company, manner), let == [])
                self.assertEqual(some_let(company, manner), let[0] if let else None)
                self.assertEqual(let_pairs(opposite(company), opposite_manner(manner)), let)
                self.assertEqual(either_lets(company, sorted([manner, ((), "odd")])) if manner != ((), "odd") else [], let)
                self.assertEqual([pair for pair in itertools.combinations(company.people(), 2) if is_let(company, manner, pair)], let)
                self.assertTrue(all(is_road(company, manner, [pair]) for pair in let))
                house = House()
                house.put(company, manner)
                self.assertEqual(house.lets(0), let)
                real, is_opposite = real_manner(manner, len(company.people()))
                self.assertEqual(let_pairs(opposite(company) if is_opposite else company, real), let)

    def test_classes_and_numbers(self):
        for many in [1, 2, 3, 4]:
            lot = list(support.all_companies(FIVE[:many]))
            for manner in MANNERS:
                sizes = class_sizes(manner, many)
                classes = [class_of(company, manner) for company in lot]
                found = [len(one) for one in classes]
                self.assertEqual(sum(found), joined_tuples(manner, many))
                self.assertEqual({size: found.count(size) // size for size in sorted(set(found))}, sizes)
                self.assertEqual(sum(sizes.values()), class_count(manner, many))
                self.assertEqual(lone_count(manner, many), len(lone_companies(FIVE[:many], manner)))
            ranks = [rank_of(company) for company in lot if is_wholly_even(company)]
            self.assertEqual({rank: ranks.count(rank) for rank in sorted(set(ranks))}, even_by_rank(many))
            odd = [len(odd_people(company)) for company in lot]
            self.assertEqual([odd.count(number) for number in range(many + 1)], [tie_class(many, number) for number in range(many + 1)])
            rests = [rest_of(company, TIES_EVEN) for company in lot]
            self.assertEqual(surplus(FIVE[:many], {}), rests.count(0) - rests.count(1))

    def test_wishes_and_classes(self):
        chance = random.Random(3)
        for _ in range(25):
            company = some_company(chance, FIVE[:chance.randint(2, 5)])
            for manner in [EVEN, TIES_EVEN]:
                lot = class_of(company, manner)
                self.assertEqual(many_met(company, {}, manner), len(lot))
                at = chance.randrange(len(lot))
                self.assertEqual(met_at(company, {}, manner, at), lot[at])
                self.assertTrue(all(rest_of(other, manner) == rest_of(company, manner) for other in lot))
                fewest = fewest_in_class(company, {}, manner)
                self.assertEqual(fewest, min(len(other.friends()) for other in lot))
                if manner == EVEN:
                    self.assertEqual(fewest, fewest_evenly(company))
                    self.assertEqual(rest_of(company, EVEN), triple_numbers(company)[3] % 2)
                every = {pair: True for pair in company.friends()} | {pair: False for pair in strangers(company)}
                self.assertEqual(wished_company(company, every, manner), company)
                self.assertEqual(forced(company, every, manner), {})
            told = company_for(company.people(), {}, {person: int(person in odd_people(company)) for person in company.people()})
            self.assertEqual(odd_people(told), odd_people(company))
            self.assertEqual(len(told.friends()), len(odd_people(company)) // 2)


def made_by_functions():
    """Companies that functions returned, of all kinds."""
    square = calls.square()
    house = House()
    house.put(square, EVEN)
    house.deed(0, ("a", "c"))
    house.guest(0, "z")
    play(house, [("exchange", 0, house.company_there(0)), ("deed", 0, ("a", "z"))])
    road = road_between(square, Company(FOUR, []), EVEN)
    script = read_script(script_text([("put", square, EVEN), ("exchange", 0, least_evenly(square))]))
    return [
        opposite(square), cone(square, "m"), side_by_side(square, Company(["y", "x"], [("x", "y")])), cut_to(square, ["d", "a"]),
        renamed(square, {"a": "q", "b": "b", "c": "a", "d": "z"}), changed(square, ("come", "aa")), changed(square, ("part", ("a", "b"))),
        company_at(["d", "c", "a"], 5), led(square, EVEN, road), companies_on(square, EVEN, road)[1], least_evenly(square),
        least_oddly(Company(FIVE, [("a", "b"), ("b", "c"), ("a", "c"), ("c", "e")])), headed(cone(square, "m")),
        class_of(square, EVEN)[7], shared_class(square, EVEN, TIES_EVEN)[0], crossing_company(crossing_labels(square)),
        lone_companies(FOUR, ODD)[-1], with_newcomers(square, 3), met_with(FOUR, {("a", "b"): True}, [("c", "d"), ("b", "c")]),
        wished_company(square, {("a", "c"): True}, EVEN), met_at(square, {}, EVEN, 3), company_for(FOUR, {}, {"a": 1}),
        house.company_there(0), replayed(House(), house.log()).company_there(0), read_company(company_text(square)),
        end_of(script)[0][0], shortened(script)[-1][2], script[0][1],
    ]


class MadeByFunctions(unittest.TestCase):
    def test_equal_ones_made_anew_are_told_the_same(self):
        met = 0
        for company in made_by_functions():
            anew = Company(list(reversed(company.people())), list(reversed(company.friends())))
            self.assertTrue(company == anew and anew == company)
            for function, arguments in calls.CALLS:
                if [argument.name for argument in arguments][:1] == ["company"]:
                    if len(company.people()) > 5 and function.__name__ in OF_FIVE:
                        continue
                    rest = [argument.rights[0] for argument in arguments[1:]]
                    told = [told_by(function, one, rest) for one in [company, anew]]
                    self.assertEqual(told[0], told[1], function.__name__)
                    met += 1
        self.assertGreater(met, 1000)

    def test_they_stay(self):
        for company in made_by_functions():
            told = support.frozen(company)
            support.spoil(company.people())
            support.spoil(company.friends())
            self.assertEqual(support.frozen(company), told)
            self.assertEqual(company_at(company.people(), company_number(company)), company)

    def test_tables_made_by_functions(self):
        table = calls.a_square_table()
        tables = [
            moved(table, ("c", "a")), table_behind(table, home_road(table)), least_table(table), with_club(table, "q"),
            with_person(table, "q"), read_table(table_text(table)),
        ]
        for one in tables:
            anew = Table(one.people()[::-1], one.clubs()[::-1], one.members()[::-1])
            self.assertTrue(one == anew and anew == one)
            self.assertEqual(table_text(one), table_text(anew))
            self.assertEqual(club_road(one, anew), [])
            told = support.frozen(one)
            for lot in [one.people(), one.clubs(), one.members()]:
                support.spoil(lot)
            self.assertEqual(support.frozen(one), told)

    def test_what_is_returned_is_passed_again(self):
        square = calls.square()
        wishes = read_wishes(wishes_text({("a", "c"): True, ("b", "d"): False}))
        house = House()
        house.put(square, EVEN)
        house.wish(0, wishes)
        self.assertEqual(house.wishes_there(0), wishes)
        self.assertEqual(led(square, EVEN, house.way(0)), house.attempt(lambda same: walk(same, same.way(0))))
        self.assertEqual([parts_of(cut_to(square, part)) for part in parts_of(square)], [[FOUR]])
        self.assertEqual(forced(square, forced(square, {}, EVEN), EVEN), {})


def walk(house, road):
    for pair in road:
        house.deed(0, pair)
    return house.company_there(0)


def told_by(function, company, rest):
    """What a function tells, or the error that it raises."""
    try:
        return support.frozen(function(company, *rest))
    except FriendError as error:
        return type(error).__name__, support.frozen(error.value)


if __name__ == "__main__":
    unittest.main()
