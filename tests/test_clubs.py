"""Points [93] to [101]: tables of people and clubs."""

import functools
import itertools
import random
import unittest

from evenfriends import clubroads, grids
from evenfriends.clubs import (
    Table, are_joined, club_road, fewest_members, home_road, is_club_road, is_least_table, is_lone_table, least_table,
    let_places, lone_tables, many_classes, mark, moved, some_let_place, squares_of, squares_through, table_behind,
    with_club, with_person,
)
from evenfriends.companies import Company
from evenfriends.errors import InvalidClub, InvalidPeople, InvalidPerson, InvalidPlace, InvalidRoad, Unlike
from tests import support

PEOPLE, CLUBS = ["a", "b", "c", "d", "e"], ["a", "w", "x", "y", "z"]
SMALL = [(1, 1), (1, 2), (2, 1), (1, 4), (4, 1), (2, 2), (2, 3), (3, 2), (2, 4), (4, 2), (2, 5), (5, 2), (3, 3)]


def places(many, wide):
    return list(itertools.product(PEOPLE[:many], CLUBS[:wide]))


def table(many, wide, members):
    return Table(PEOPLE[:many], CLUBS[:wide], list(members))


def all_members(many, wide):
    lot = places(many, wide)
    return [some for size in range(len(lot) + 1) for some in itertools.combinations(lot, size)]


@functools.lru_cache(maxsize=None)
def plain_through(members, place):
    """With how many pairs of another person and another club a place makes a square, by looking at each."""
    one, club = place
    held = set(members)
    people, clubs = {person for person, _ in members} - {one}, {other for _, other in members} - {club}
    return sum({(a, d), (a, club), (one, d)} <= held for a in people for d in clubs)


def plain_let(many, wide, members):
    return [place for place in places(many, wide) if plain_through(members, place) % 2 == 0]


@functools.lru_cache(maxsize=None)
def plain_classes(many, wide):
    """From the members of all tables, as tuples, to the positions of their classes, and the classes; by plain search."""
    found, classes = {}, []
    for start in all_members(many, wide):
        if start not in found:
            found[start] = len(classes)
            queue = [start]
            for members in queue:
                for place in plain_let(many, wide, members):
                    later = tuple(sorted(set(members) ^ {place}))
                    if later not in found:
                        found[later] = len(classes)
                        queue.append(later)
            classes.append(queue)
    return found, classes


def some_table(chance, many, wide):
    share = chance.choice([0.1, 0.3, 0.5, 0.7, 0.9, 1])
    return table(many, wide, [place for place in places(many, wide) if chance.random() < share])


def blocks(chance, many, wide):
    """A table of blocks: people and clubs of one colour are all members, perhaps but for one place."""
    colours = [chance.randint(0, 3) for _ in range(many)], [chance.randint(0, 3) for _ in range(wide)]
    members = [
        (PEOPLE[one], CLUBS[club]) for one in range(many) for club in range(wide)
        if colours[0][one] == colours[1][club] > 0
    ]
    if chance.random() < 0.5:
        members = sorted(set(members) ^ {chance.choice(places(many, wide))})
    return table(many, wide, members)


def walked(one, road):
    """The members behind a road, place by place; None if some place is not let where it stands."""
    members = tuple(one.members())
    for place in road:
        if place[0] not in one.people() or place[1] not in one.clubs() or plain_through(members, place) % 2:
            return None
        members = tuple(sorted(set(members) ^ {place}))
    return list(members)


class Tables(unittest.TestCase):
    def test_a_table_is_ascending(self):
        one = Table(["b", "a"], ["x", "a"], [("b", "x"), ("a", "x"), ("b", "a")])
        self.assertEqual(one.people(), ["a", "b"])
        self.assertEqual(one.clubs(), ["a", "x"])
        self.assertEqual(one.members(), [("a", "x"), ("b", "a"), ("b", "x")])
        self.assertEqual(Table(["a"], ["a"], [("a", "a")]).members(), [("a", "a")])

    def test_equal_exactly_if_all_three_are(self):
        one = Table(["a", "b"], ["x", "y"], [("a", "x"), ("b", "y")])
        self.assertIs(one == Table(["b", "a"], ["y", "x"], [("b", "y"), ("a", "x")]), True)
        for other in [
            Table(["a", "b"], ["x", "y"], [("a", "x")]), Table(["a", "c"], ["x", "y"], [("a", "x")]),
            Table(["a", "b"], ["x", "z"], [("a", "x")]), Table(["a", "b", "c"], ["x", "y"], [("a", "x"), ("b", "y")]),
            Table(["a", "b"], ["x", "y", "z"], [("a", "x"), ("b", "y")]), Company(["a", "b"], []), None, [], "table",
        ] + [value for value in support.any_objects() if not isinstance(value, Table)]:
            self.assertIs(one == other, False)
            self.assertIs(other == one, False)
            self.assertIs(one != other, True)

    def test_lists_stay(self):
        people, clubs, members = ["b", "a"], ["x"], [("a", "x")]
        one = Table(people, clubs, members)
        for lot in [people, clubs, members, one.people(), one.clubs(), one.members()]:
            support.spoil(lot)
        self.assertEqual((one.people(), one.clubs(), one.members()), (["a", "b"], ["x"], [("a", "x")]))

    def test_wrong(self):
        for args, error, at in [
            (([], None, None), InvalidPeople, 0), ((["a", "a"], [], []), InvalidPeople, 0), ((["a"], [], None), InvalidClub, 1),
            ((["a"], ("x",), []), InvalidClub, 1), ((["a"], ["x", "x"], []), InvalidClub, 1),
            ((["a"], ["X"], []), InvalidClub, 1), ((["a"], ["x"], [("x", "a")]), InvalidPlace, 2),
            ((["a"], ["x"], [("a", "x"), ("a", "x")]), InvalidPlace, 2), ((["a"], ["x"], [["a", "x"]]), InvalidPlace, 2),
        ]:
            with self.assertRaises(error) as caught:
                Table(*args)
            self.assertIs(caught.exception.value, args[at])


class Squares(unittest.TestCase):
    def test_counted_by_looking(self):
        chance = random.Random(1)
        for many, wide in SMALL + [(4, 4), (5, 5), (5, 5)]:
            for _ in range(25):
                one = some_table(chance, many, wide)
                members = tuple(one.members())
                number = sum(
                    {(a, x), (a, y), (b, x), (b, y)} <= set(members)
                    for a, b in itertools.combinations(PEOPLE[:many], 2) for x, y in itertools.combinations(CLUBS[:wide], 2)
                )
                self.assertEqual(squares_of(one), number)
                for place in places(many, wide):
                    self.assertEqual(squares_through(one, place), plain_through(members, place))
                let = plain_let(many, wide, members)
                self.assertEqual(let_places(one), let)
                self.assertIs(is_lone_table(one), let == [])
                self.assertEqual(some_let_place(one), let[0] if let else None)

    def test_moved(self):
        chance = random.Random(2)
        for many, wide in [(1, 1), (2, 2), (3, 3), (4, 5)]:
            one = some_table(chance, many, wide)
            for place in places(many, wide):
                if plain_through(tuple(one.members()), place) % 2 == 0:
                    behind = moved(one, place)
                    self.assertEqual(behind.members(), sorted(set(one.members()) ^ {place}))
                    self.assertEqual(squares_of(behind) % 2, squares_of(one) % 2)
                    self.assertEqual(moved(behind, place), one)
                else:
                    with self.assertRaises(InvalidPlace) as caught:
                        moved(one, place)
                    self.assertIs(caught.exception.value, place)
        with self.assertRaises(InvalidPlace):
            moved(table(2, 2, places(2, 2)), ("a", "a"))

    def test_the_square_of_four(self):
        full = table(2, 2, places(2, 2))
        self.assertEqual((squares_of(full), let_places(full), some_let_place(full)), (1, [], None))
        self.assertEqual(mark(full), ("lone", places(2, 2)))
        for other in [table(4, 4, places(4, 4)), table(2, 4, places(2, 4)), table(4, 2, places(4, 2))]:
            self.assertIs(is_lone_table(other), True)
            self.assertEqual(fewest_members(other), len(other.members()))
            self.assertEqual(home_road(other), [])


class Roads(unittest.TestCase):
    def test_is_club_road_and_table_behind(self):
        chance = random.Random(3)
        told = []
        for _ in range(400):
            many, wide = chance.choice([(2, 2), (2, 3), (3, 3)])
            one = some_table(chance, many, wide)
            road = [chance.choice(places(many, wide)) for _ in range(chance.randint(0, 4))]
            behind = walked(one, road)
            told.append(behind is not None)
            if behind is None:
                with self.assertRaises(InvalidRoad) as caught:
                    table_behind(one, road)
                self.assertIs(caught.exception.value, road)
                for other in [one, some_table(chance, many, wide)]:
                    self.assertIs(is_club_road(one, other, road), False)
            else:
                self.assertEqual(table_behind(one, road).members(), behind)
                self.assertIs(is_club_road(one, table(many, wide, behind), road), True)
                bent = sorted(set(behind) ^ {("a", "a")})
                self.assertIs(is_club_road(one, table(many, wide, bent), road), False)
        self.assertGreater(told.count(True), 50)
        self.assertGreater(told.count(False), 50)

    def test_bent_roads(self):
        none = table(3, 3, [])
        one = table(3, 3, [("a", "a"), ("b", "w")])
        self.assertIs(is_club_road(none, one, [("b", "w"), ("a", "a")]), True)
        for value in [
            (("a", "a"), ("b", "w")), [["a", "a"], ("b", "w")], [("a", "a"), ("w", "b")], [("a", "a")], None, [None],
            [("a", "a"), ("b", "w"), ("e", "w")], [("a", "a"), ("b", "w", "w")], {("a", "a"): 1, ("b", "w"): 1}, "aa",
        ]:
            self.assertIs(is_club_road(none, one, value), False)
        for other in [table(3, 4, []), table(4, 3, []), Table(["a", "b", "d"], CLUBS[:3], [])]:
            with self.assertRaises(Unlike) as caught:
                is_club_road(none, other, [])
            self.assertIs(caught.exception.value, other)


class Joined(unittest.TestCase):
    def test_marks_by_plain_search(self):
        for many, wide in SMALL:
            found, classes = plain_classes(many, wide)
            marks = {}
            for members, at in found.items():
                one = table(many, wide, members)
                told = mark(one)
                marks.setdefault(at, []).append(told)
                self.assertEqual(fewest_members(one), min(len(other) for other in classes[at]))
                self.assertEqual(told, self.plain_mark(many, wide, members))
            self.assertTrue(all(all(told == lot[0] for told in lot) for lot in marks.values()))
            firsts = [lot[0] for lot in marks.values()]
            self.assertTrue(all(one != other for one, other in itertools.combinations(firsts, 2)))
            self.assertEqual(many_classes(PEOPLE[:many], CLUBS[:wide]), len(classes))

    def plain_mark(self, many, wide, members):
        held = set(members)
        if not plain_let(many, wide, members):
            return ("lone", sorted(held))
        if 1 in (many, wide):
            return ("free", 0)
        if many == 2:
            return ("shared", sum({("a", club), ("b", club)} <= held for club in CLUBS) // 2)
        if wide == 2:
            return ("shared", sum({(person, "a"), (person, "w")} <= held for person in PEOPLE) // 2)
        return ("squares", squares_of(table(many, wide, members)) % 2)

    def test_joined_by_plain_search(self):
        chance = random.Random(4)
        for many, wide in SMALL:
            found, _ = plain_classes(many, wide)
            lots = list(found)
            for _ in range(40):
                one, other = chance.choice(lots), chance.choice(lots)
                first, second = table(many, wide, one), table(many, wide, other)
                joined = found[one] == found[other]
                self.assertIs(are_joined(first, second), joined)
                road = club_road(first, second)
                self.assertEqual(road is not None, joined)
                if joined:
                    self.assertEqual(walked(first, road), list(other))
                    self.assertIs(is_club_road(first, second, road), True)

    def test_least_tables_by_plain_search(self):
        for many, wide in SMALL:
            found, classes = plain_classes(many, wide)
            for lot in classes[:6]:
                fewest = min(len(members) for members in lot)
                one = table(many, wide, lot[-1])
                least = least_table(one)
                self.assertEqual(len(least.members()), fewest)
                self.assertEqual(found[tuple(least.members())], found[lot[0]])
                for members in lot[:40] + list(found)[:10]:
                    is_right = len(members) == fewest and members in lot
                    self.assertIs(is_least_table(one, table(many, wide, members)), is_right)
                road = home_road(one)
                self.assertLessEqual(len(road), 500)
                self.assertEqual(len(walked(one, road)), fewest)

    def test_bent_least_tables(self):
        one = table(3, 3, [("a", "a"), ("a", "w"), ("b", "a"), ("b", "w"), ("c", "x")])
        square = table(3, 3, [("b", "w"), ("b", "x"), ("c", "w"), ("c", "x")])
        self.assertIs(is_least_table(one, square), True)
        four = table(3, 3, [("a", "a"), ("a", "w"), ("a", "x"), ("b", "a")])
        for value in [one, four, None, square.members(), with_club(square, "zz"), with_person(square, "zz"), table(3, 3, [])]:
            self.assertIs(is_least_table(one, value), False)

    def test_three_by_four_by_plain_search(self):
        for many, wide in [(3, 4), (4, 3)]:
            lone = [some for some in all_members(many, wide) if not plain_let(many, wide, some)]
            plain_through.cache_clear()
            told = lone_tables(PEOPLE[:many][::-1], CLUBS[:wide][::-1])
            self.assertEqual([one.members() for one in told], sorted([list(one) for one in lone]))
            self.assertEqual(many_classes(PEOPLE[:many], CLUBS[:wide]), 2 + len(lone))

    def test_four_by_four(self):
        # Somewhat beyond what is asked: the fewest people and clubs, from three on, of whom some tables are lone.
        told = lone_tables(PEOPLE[:4], CLUBS[:4])
        self.assertEqual(many_classes(PEOPLE[:4], CLUBS[:4]), 2 + len(told))
        self.assertIn(table(4, 4, places(4, 4)), told)
        self.assertTrue(all(plain_let(4, 4, tuple(one.members())) == [] for one in told))
        self.assertEqual([one.members() for one in told], sorted([one.members() for one in told]))

    def test_lone_tables(self):
        for many, wide in SMALL:
            lone = [some for some in all_members(many, wide) if not plain_let(many, wide, some)]
            told = lone_tables(PEOPLE[:many], CLUBS[:wide])
            self.assertEqual([one.members() for one in told], sorted([list(one) for one in lone]))
            self.assertTrue(all(one.people() == PEOPLE[:many] and one.clubs() == CLUBS[:wide] for one in told))
        self.assertEqual(lone_tables(["b", "a"], ["y", "x"])[0].people(), ["a", "b"])

    def test_with_one_more(self):
        chance = random.Random(5)
        for one in [some_table(chance, 3, 3), table(2, 2, places(2, 2)), table(1, 1, [("a", "a")])]:
            club, person = with_club(one, "q"), with_person(one, "q")
            self.assertEqual((club.people(), club.clubs(), club.members()), (one.people(), sorted(one.clubs() + ["q"]), one.members()))
            self.assertEqual((person.people(), person.clubs(), person.members()), (sorted(one.people() + ["q"]), one.clubs(), one.members()))
            self.assertFalse(is_lone_table(club))
            self.assertFalse(is_lone_table(person))
        both = with_person(table(2, 2, []), "w")
        self.assertEqual(both.people(), ["a", "b", "w"])
        self.assertEqual(with_club(both, "b").clubs(), ["a", "b", "w"])
        for call, error in [(lambda: with_club(both, "w"), InvalidClub), (lambda: with_person(both, "w"), InvalidPerson)]:
            with self.assertRaises(error) as caught:
                call()
            self.assertEqual(caught.exception.value, "w")


class GreatRoads(unittest.TestCase):
    def check(self, one, other):
        home = home_road(one)
        self.assertLessEqual(len(home), 500)
        self.assertIs(is_least_table(one, table_behind(one, home)), True)
        self.assertEqual(len(walked(one, home)), fewest_members(one))
        road = club_road(one, other)
        self.assertEqual(road is not None, mark(one) == mark(other))
        if road is not None:
            self.assertLessEqual(len(road), 1000)
            self.assertEqual(walked(one, road), other.members())

    def test_some_great_ones(self):
        chance = random.Random(6)
        for many, wide in [(3, 4), (4, 3), (3, 5), (5, 3), (4, 4), (4, 5), (5, 4), (5, 5)]:
            for _ in range(12):
                self.check(some_table(chance, many, wide), some_table(chance, many, wide))
                self.check(blocks(chance, many, wide), some_table(chance, many, wide))
            plain_through.cache_clear()

    def test_one_square_to_any_other(self):
        for people in itertools.combinations(PEOPLE[:4], 2):
            for clubs in itertools.combinations(CLUBS[:4], 2):
                one = table(4, 4, itertools.product(people, clubs))
                for other in [table(4, 4, places(2, 2)), table(4, 4, itertools.product(["c", "d"], ["x", "y"]))]:
                    road = club_road(one, other)
                    self.assertEqual(walked(one, road), other.members())
                    self.assertLessEqual(len(road), 16)

    def test_two_people_and_two_clubs_with_every_half(self):
        for wide in range(2, 6):
            for shared in range(wide + 1):
                members = list(itertools.product(["a", "b"], CLUBS[:shared])) + [("a", club) for club in CLUBS[shared:wide]]
                one = table(2, wide, members)
                over = Table(one.clubs(), one.people(), [(club, person) for person, club in members])
                half = ("lone", members) if shared == wide and wide % 2 == 0 else ("shared", shared // 2)
                self.assertEqual(mark(one), half)
                self.assertEqual(mark(over)[0], half[0])
                self.assertEqual(fewest_members(one), 4 * (shared // 2))
                self.assertEqual(fewest_members(over), 4 * (shared // 2))
                least = least_table(one)
                self.check(one, least)
                self.check(over, least_table(over))

    def test_rows_that_come_up(self):
        """The rows that the tables of at most five people and five clubs need, each walked where it is the first."""
        met = {}
        for wide, rows in [(4, (0, 0, 15, 15)), (4, (10, 9, 9, 10)), (5, (24, 24, 30, 30)), (5, (0, 0, 3, 12, 15)), (3, (1, 2, 3))]:
            now = list(rows)
            while grids.member_number(now) > 4 * (grids.squares_number(now) % 2):
                name, deeds = self.first_row(now, wide)
                start = table_of(now, wide)
                behind = walked(start, [(PEOPLE[person], CLUBS[club]) for person, club in deeds])
                self.assertLess(len(behind), len(start.members()))
                met[name] = met.get(name, 0) + 1
                now = grids.grid_behind(now, deeds)
        self.assertEqual(sorted(met), ["moves", "odd_block", "one_taken_out", "person_apart"])

    def first_row(self, now, wide):
        for rule in clubroads.RULES:
            deeds = clubroads.places_by(rule, now, wide)
            if deeds:
                return rule.__name__, deeds
        return "moves", clubroads.moved_and_lessened(now, wide)

    def test_each_row_by_itself(self):
        """Each row makes members fewer where the members that it takes out are not let by themselves."""
        chance = random.Random(7)
        met = dict.fromkeys(clubroads.RULES[1:], 0)
        for _ in range(4000):
            wide = chance.choice([4, 5])
            share = chance.choice([0.3, 0.4, 0.5, 0.7])
            grid = [sum((chance.random() < share) << at for at in range(wide)) for _ in range(5)]
            for rule in met:
                deeds = clubroads.places_by(rule, grid, wide)
                if rule in (clubroads.odd_block, clubroads.even_clubs) and deeds and not is_block(grid, deeds[0], rule):
                    continue
                shut = [deeds[at] for at in [1, 2, 4]] if deeds and rule is clubroads.long_row else deeds[1:]
                if deeds and all(grids.squares_at(grid, place) % 2 for place in shut):
                    met[rule] += 1
                    self.assertTrue(grids.are_free(grid, deeds), (rule.__name__, grid))
                    behind = grids.member_number(grids.grid_behind(grid, deeds))
                    self.assertLess(behind, grids.member_number(grid))
        self.assertTrue(all(number > 20 for number in met.values()), met)
        for rule, grid, wide, fewer in [
            (clubroads.four_alike, [15, 15, 0], 4, 8), (clubroads.four_alike, [0, 30, 1, 30], 5, 8),
        ]:
            for now, many in [(grid, wide), (grids.turned_over(grid, wide), len(grid))]:
                deeds = clubroads.places_by(rule, now, many)
                self.assertTrue(grids.are_free(now, deeds))
                self.assertEqual(grids.member_number(grids.grid_behind(now, deeds)), grids.member_number(now) - fewer)

    def test_four_alike_are_just_those(self):
        for grid, wide in [([15, 15, 1], 4), ([7, 7, 0], 4), ([15, 31, 0], 5), ([31, 31, 0], 5), ([15, 30, 0], 5), ([0, 15, 0], 4)]:
            self.assertEqual(clubroads.four_alike(grid, wide), [])

    def test_rows_are_found_where_they_are(self):
        chance = random.Random(10)
        met = {}
        for _ in range(600):
            many, wide = chance.choice([(3, 4), (4, 4), (5, 5), (4, 5)])
            share = chance.choice([0.3, 0.5, 0.7])
            grid = [sum((chance.random() < share) << at for at in range(wide)) for _ in range(many)]
            for rule, told in [(clubroads.two_opposite, plain_opposite(grid, wide)), (clubroads.even_clubs, plain_even(grid, wide))]:
                self.assertIs(rule(grid, wide) != [], told, (rule.__name__, grid))
                met.setdefault(rule, set()).add(told)
        self.assertTrue(all(found == {True, False} for found in met.values()))

    def test_moves(self):
        """All moves by the words; each leaves as many members, where the two that it takes out are not let."""
        chance = random.Random(9)
        met = [0, 0]
        for _ in range(1500):
            many, wide = chance.choice([(3, 4), (4, 4), (5, 5), (4, 5)])
            share = chance.choice([0.2, 0.4, 0.6])
            grid = [sum((chance.random() < share) << at for at in range(wide)) for _ in range(many)]
            moves = clubroads.moves_of(grid, wide)
            self.assertEqual(sorted(moves), sorted(plain_moves(grid, wide)))
            met[0] += len(moves)
            for move in clubroads.all_moves(grid, wide):
                if all(grids.squares_at(grid, place) % 2 for place in move[2:]):
                    met[1] += 1
                    self.assertTrue(grids.are_free(grid, move))
                    self.assertEqual(grids.member_number(grids.grid_behind(grid, move)), grids.member_number(grid))
        self.assertTrue(met[0] > 500 and met[1] > 20, met)

    def test_rows_that_are_told(self):
        # A row of five members; two people with four clubs alike; a place with a block of two by two behind it.
        five = [("a", "a"), ("b", "a"), ("b", "w"), ("c", "w"), ("c", "x")]
        four = [(person, club) for person in ["a", "b"] for club in CLUBS[:4]]
        for members, many, wide in [(five, 3, 3), (four, 3, 4), (four, 3, 5), (four + [("d", "z")], 4, 5)]:
            one = table(many, wide, members)
            self.check(one, least_table(one))
            over = Table(one.clubs(), one.people(), [(club, person) for person, club in members])
            self.check(over, least_table(over))


def plain_opposite_members(grid, wide):
    """The places that are no members, are let and have squares, each with the members opposite to it, by sets."""
    held = {(person, club) for person, row in enumerate(grid) for club in range(wide) if row >> club & 1}
    for i, j in itertools.product(range(len(grid)), range(wide)):
        around = [(a, d) for a, d in held if (a, j) in held and (i, d) in held]
        if (i, j) not in held and around and len(around) % 2 == 0:
            yield held, i, j, around


def plain_opposite(grid, wide):
    for held, _, _, around in plain_opposite_members(grid, wide):
        for (a, d), (b, e) in itertools.combinations(around, 2):
            if a != b and d != e and not {(a, e), (b, d)} <= held:
                return True
    return False


def plain_even(grid, wide):
    for held, i, j, around in plain_opposite_members(grid, wide):
        apart = [x for x in range(len(grid)) if x != i and (x, j) not in held]
        for (a, d), (b, e) in itertools.combinations(around, 2):
            if a == b and sum({(x, d), (x, e)} <= held for x in apart) % 2 == 0:
                return True
    return False


def plain_moves(grid, wide):
    """The moves of two people from a club that they share to another one, as the words tell them."""
    held = {(person, club) for person, row in enumerate(grid) for club in range(wide) if row >> club & 1}
    found = []
    for i, a in itertools.combinations(range(len(grid)), 2):
        shared = [club for club in range(wide) if (i, club) in held and (a, club) in held]
        tied, clubs = {i, a}, set()
        for _ in range(12):
            clubs |= {club for person, club in held if person in tied}
            tied |= {person for person, club in held if club in clubs}
        for d, j in itertools.product(shared if len(shared) % 2 == 0 else [], set(range(wide)) - clubs):
            others = {club for person, club in held if person not in (i, a)}
            if d in others or j in others:
                found.append([(i, j), (a, j), (i, d), (a, d)])
    return found


def is_block(grid, place, rule):
    """Whether what is opposite to a place is all of some people by some clubs, of the numbers that a row asks for."""
    around = clubroads.opposite_places(grid, place)
    people, clubs = {one for one, _ in around}, {club for _, club in around}
    is_odd = (len(people) + len(clubs)) % 2 == 1
    return len(around) == len(people) * len(clubs) and is_odd == (rule is clubroads.odd_block)


def table_of(grid, wide):
    members = [(PEOPLE[person], CLUBS[club]) for person, club in grids.member_places(grid)]
    return table(len(grid), wide, members)


if __name__ == "__main__":
    unittest.main()
