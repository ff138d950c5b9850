"""Points [102] to [110]: a house."""

import itertools
import random
import unittest

from evenfriends.companies import Company
from evenfriends.errors import (
    Apart, FriendError, InvalidCompany, InvalidHouse, InvalidLog, InvalidManner, InvalidPair, InvalidPerson,
    InvalidSpot, InvalidWishes, NothingToRedo, NothingToUndo, Refused, Unlike,
)
from evenfriends.house import House, replayed
from tests import calls, plain, support
from tests.plain import EVEN, MANNERS, ODD, Plain, TIES_EVEN, TIES_ODD

ABC, ABCD = ["a", "b", "c"], ["a", "b", "c", "d"]
FOUR_MANNERS = [TIES_EVEN, TIES_ODD, EVEN, ODD]


def does_meet(friends, wishes):
    return all((pair in friends) == wish for pair, wish in wishes.items())


def can_be_met(company, manner, wishes):
    """By a plain search through all that are joined with a company."""
    return wishes is None or any(does_meet(friends, wishes) for friends in plain.away_from(company, manner))


class Model:
    """A house told a second time: its spots are worked out from the commands that are not taken back, each time anew."""

    def __init__(self):
        self.made, self.taken = [], []

    def same(self):
        other = Model()
        other.made, other.taken = list(self.made), list(self.taken)
        return other

    def rooms(self):
        rooms, count = {}, 0
        for word, *things in self.made:
            if word == "put":
                rooms[count], count = (things[0], things[1], None), count + 1
            elif word == "take":
                del rooms[things[0]]
            elif word == "swap":
                spot, other = things
                one, two = rooms[spot], rooms[other]
                rooms[spot], rooms[other] = (two[0], one[1], one[2]), (one[0], two[1], two[2])
            else:
                rooms[things[0]] = self.behind(rooms[things[0]], word, things[-1])
        return rooms, count

    def behind(self, room, word, thing):
        company, manner, wishes = room
        people, friends = company.people(), company.friends()
        if word == "deed":
            company = plain.behind(company, [thing])
        if word == "guest":
            company = Company(people + [thing], friends)
        if word == "leave":
            company = Company([one for one in people if one != thing], friends)
        if word == "exchange":
            company = thing
        if word in ["wish", "unwish"]:
            wishes = thing if word == "wish" else None
        return company, thing if word == "to_manner" else manner, wishes

    def error(self, word, things):
        """The class and the field of the error that a command raises, None if it raises none."""
        rooms, _ = self.rooms()
        if word == "undo":
            return None if self.made else (NothingToUndo, None)
        if word == "redo":
            return None if self.taken else (NothingToRedo, None)
        if word == "put":
            return None
        spot = things[0]
        if type(spot) is not int or spot not in rooms:
            return InvalidSpot, spot
        company, manner, wishes = rooms[spot]
        return getattr(self, "error_of_" + word)(company, manner, wishes, things, rooms)

    def error_of_take(self, company, manner, wishes, things, rooms):
        return None

    def error_of_deed(self, company, manner, wishes, things, rooms):
        told = Plain(company)
        if things[1] not in told.pairs:
            return InvalidPair, things[1]
        return None if told.lets(manner, things[1]) else (Refused, things[1])

    def error_of_wish(self, company, manner, wishes, things, rooms):
        if not all(pair in Plain(company).pairs for pair in things[1]):
            return InvalidWishes, things[1]
        return None if can_be_met(company, manner, things[1]) else (Refused, things[1])

    def error_of_unwish(self, company, manner, wishes, things, rooms):
        return (Refused, things[0]) if wishes is None else None

    def error_of_guest(self, company, manner, wishes, things, rooms):
        if things[1] in company.people():
            return InvalidPerson, things[1]
        behind = Company(company.people() + [things[1]], company.friends())
        return None if can_be_met(behind, manner, wishes) else (Refused, things[1])

    def error_of_leave(self, company, manner, wishes, things, rooms):
        person, others = things[1], [one for one in company.people() if one != things[1]]
        if person not in company.people():
            return InvalidPerson, person
        if Plain(company).circle(person) or not others or any(person in pair for pair in wishes or {}):
            return Refused, person
        return None if can_be_met(Company(others, company.friends()), manner, wishes) else (Refused, person)

    def error_of_exchange(self, company, manner, wishes, things, rooms):
        if things[1].people() != company.people():
            return Unlike, things[1]
        return None if plain.are_joined(company, things[1], manner) else (Apart, things[1])

    def error_of_to_manner(self, company, manner, wishes, things, rooms):
        return None if can_be_met(company, things[1], wishes) else (Refused, things[1])

    def error_of_swap(self, company, manner, wishes, things, rooms):
        spot, other = things
        if type(other) is not int or other not in rooms or other == spot:
            return InvalidSpot, other
        newer = rooms[other][0]
        if newer.people() != company.people():
            return Unlike, newer
        if not plain.are_joined(company, newer, manner):
            return Apart, newer
        return None if plain.are_joined(company, newer, rooms[other][1]) else (Refused, other)

    def make(self, word, things):
        if word == "undo":
            self.taken.append(self.made.pop())
        elif word == "redo":
            self.made.append(self.taken.pop())
        else:
            self.made.append((word, *things))
            self.taken = []

    def answer(self, word, things):
        if word == "put":
            return self.rooms()[1] - 1
        if word == "deed":
            return things[1] in self.rooms()[0][things[0]][0].friends()
        return None


def some_company(chance, people):
    share = chance.choice([0, 0.3, 0.6, 1])
    return Company(people, [pair for pair in itertools.combinations(people, 2) if chance.random() < share])


def some_command(chance, spots):
    """Any command, right or wrong, about some spots, mostly."""
    word = chance.choice(
        ["put", "take", "deed", "deed", "deed", "wish", "wish", "unwish", "guest", "leave", "leave", "exchange",
         "exchange", "to_manner", "swap", "swap", "undo", "undo", "redo"],
    )
    spot = chance.choice(spots * 4 + [0, 1, 9])
    pairs = list(itertools.combinations(ABCD, 2))
    things = {
        "put": lambda: (some_company(chance, chance.choice([["a"], ["a", "b"], ABC, ABC, ABC])), chance.choice(MANNERS)),
        "take": lambda: (spot,), "deed": lambda: (spot, chance.choice(pairs)), "unwish": lambda: (spot,),
        "wish": lambda: (spot, {pair: chance.random() < 0.5 for pair in chance.sample(pairs[:4], chance.randint(0, 2))}),
        "guest": lambda: (spot, chance.choice(ABCD)), "leave": lambda: (spot, chance.choice(ABCD)),
        "exchange": lambda: (spot, some_company(chance, chance.choice([ABC, ABC, ABCD]))),
        "to_manner": lambda: (spot, chance.choice(MANNERS)), "swap": lambda: (spot, chance.choice(spots * 2 + [0, 5])),
        "undo": lambda: (), "redo": lambda: (),
    }[word]()
    return word, things


class ByModel(unittest.TestCase):
    """Long rows of commands, held against the second telling."""

    def check_state(self, house, model):
        rooms, count = model.rooms()
        self.assertEqual(house.spots(), sorted(rooms))
        for spot, (company, manner, wishes) in rooms.items():
            self.assertEqual(house.company_there(spot), company)
            self.assertEqual(house.manner_there(spot), manner)
            told = house.wishes_there(spot)
            self.assertEqual(None if told is None else list(told.items()), None if wishes is None else sorted(wishes.items()))
            self.assertIs(house.is_met(spot), wishes is None or does_meet(company.friends(), wishes))
        self.assertEqual(support.frozen(house.log()), support.frozen([ordered(command) for command in model.made]))

    def do(self, house, model, word, things):
        wrong = model.error(word, things)
        before = support.house_told(house) if wrong else None
        raised, answer = None, None
        try:
            answer = getattr(house, word)(*things)
        except FriendError as error:
            raised = error
        if wrong is None:
            self.assertIsNone(raised, (word, things))
            model.make(word, things)
            self.assertIs(type(answer), type(model.answer(word, things)))
            self.assertEqual(answer, model.answer(word, things))
        else:
            self.assertIs(type(raised), wrong[0], (word, things))
            if wrong[0] not in [NothingToUndo, NothingToRedo]:
                told = raised.value
                self.assertTrue(told is wrong[1] or told == wrong[1] and type(told) is type(wrong[1]), (word, things))
            self.assertEqual(support.house_told(house), before)
        return wrong

    def test_long_rows(self):
        met = {}
        for seed in range(30):
            chance = random.Random(seed)
            house, model = House(), Model()
            for at in range(40):
                spots = house.spots() or [0]
                word, things = ("put", (some_company(chance, ABC), chance.choice(FOUR_MANNERS))) if at < 2 else some_command(chance, spots)
                wrong = self.do(house, model, word, things)
                met.setdefault(word, []).append(wrong and wrong[0])
                self.check_state(house, model)
            other = replayed(House(), house.log())
            self.check_state(other, model)
        refusals = {
            "take": [InvalidSpot], "deed": [InvalidSpot, InvalidPair, Refused], "unwish": [InvalidSpot, Refused],
            "wish": [InvalidSpot, InvalidWishes, Refused], "guest": [InvalidSpot, InvalidPerson],
            "leave": [InvalidSpot, InvalidPerson, Refused], "exchange": [InvalidSpot, Unlike, Apart],
            "swap": [InvalidSpot, Unlike, Apart], "undo": [], "redo": [NothingToRedo], "put": [],
            "to_manner": [InvalidSpot, Refused],
        }
        for word, errors in refusals.items():
            self.assertLessEqual(set(errors + [None]), set(met[word]), word)

    def test_blocks_and_copies(self):
        for seed in range(25):
            chance = random.Random(1000 + seed)
            house, model = House(), Model()
            self.nested(chance, house, model, 3)
            self.check_state(house, model)

    def nested(self, chance, house, model, depth):
        for _ in range(7):
            self.do(house, model, *some_command(chance, house.spots() or [0]))
            if depth > 0 and chance.random() < 0.3:
                self.in_a_block(chance, house, model, depth)
            if depth >= 0 and chance.random() < 0.2:
                other, told = house.copy(), support.house_told(house)
                self.assertEqual(support.house_told(other), told)
                self.nested(chance, other, model.same(), -1)
                self.assertEqual(support.house_told(house), told)

    def in_a_block(self, chance, house, model, depth):
        told = support.house_told(house)
        kind = chance.choice(["trial", "attempt", "error", "error in attempt"])
        if kind == "trial":
            with house.trial() as same:
                self.assertIs(same, house)
                self.nested(chance, house, model.same(), depth - 1)
        elif kind == "attempt":
            thing = [object()]
            given = house.attempt(lambda same: self.nested(chance, same, model.same(), depth - 1) or thing)
            self.assertIs(given, thing)
        else:
            raised = KeyError("mine")
            with self.assertRaises(KeyError) as caught:
                if kind == "error":
                    with house.trial():
                        self.nested(chance, house, model.same(), depth - 1)
                        raise raised
                house.attempt(lambda same: self.broken(chance, same, model.same(), depth - 1, raised))
            self.assertIs(caught.exception, raised)
        self.assertEqual(support.house_told(house), told)
        self.check_state(house, model)

    def broken(self, chance, house, model, depth, raised):
        self.nested(chance, house, model, depth)
        raise raised


def ordered(command):
    if command[0] == "wish":
        return command[:2] + (dict(sorted(command[2].items())),)
    return command


class Spots(unittest.TestCase):
    def test_counts_of_spots(self):
        house, one = House(), Company(["a"], [])
        self.assertEqual(house.spots(), [])
        self.assertEqual([house.put(one, EVEN) for _ in range(3)], [0, 1, 2])
        self.assertIsNone(house.take(1))
        self.assertEqual(house.spots(), [0, 2])
        # A spot that was taken is not given again, one of a put that was taken back is.
        self.assertEqual(house.put(one, ODD), 3)
        house.undo()
        self.assertEqual(house.put(one, ODD), 3)
        house.take(3)
        self.assertEqual(house.put(one, ODD), 4)
        with house.trial():
            self.assertEqual(house.put(one, ODD), 5)
        self.assertEqual(house.attempt(lambda same: same.put(one, EVEN)), 5)
        self.assertEqual(house.put(one, ODD), 5)
        house.undo()
        house.redo()
        self.assertEqual(house.spots(), [0, 2, 4, 5])
        self.assertEqual(house.put(one, ODD), 6)

    def test_what_is_there(self):
        house, company = House(), Company(["b", "a"], [("a", "b")])
        house.put(company, ((0, 2), "odd"))
        self.assertEqual(house.company_there(0), company)
        self.assertEqual(house.manner_there(0), ((0, 2), "odd"))
        self.assertIsNone(house.wishes_there(0))
        house.take(0)
        for call in [house.company_there, house.manner_there, house.wishes_there, house.take, house.lets]:
            with self.assertRaises(InvalidSpot) as caught:
                call(0)
            self.assertEqual(caught.exception.value, 0)

    def test_houses_are_apart(self):
        one, other = House(), House()
        one.put(Company(["a"], []), EVEN)
        self.assertEqual((one.spots(), other.spots()), ([0], []))
        self.assertTrue(one == one)

    def test_wishes_of_the_caller_and_of_the_house(self):
        house, wishes = House(), {("b", "c"): False, ("a", "b"): True}
        house.put(Company(ABC, []), EVEN)
        house.wish(0, wishes)
        wishes[("a", "c")] = True
        told = house.wishes_there(0)
        self.assertEqual(list(told.items()), [(("a", "b"), True), (("b", "c"), False)])
        told.clear()
        house.log()[1][2].clear()
        house.log().clear()
        self.assertEqual(list(house.wishes_there(0).items()), [(("a", "b"), True), (("b", "c"), False)])
        self.assertEqual(list(house.log()[1][2].items()), [(("a", "b"), True), (("b", "c"), False)])
        house.undo()
        house.redo()
        self.assertEqual(list(house.wishes_there(0)), [("a", "b"), ("b", "c")])


class Wishes(unittest.TestCase):
    def test_ways_under_all_manners(self):
        chance = random.Random(5)
        met = []
        for manner in MANNERS:
            for people in [["a"], ["a", "b"], ABC, ABCD]:
                company = some_company(chance, people)
                pairs = list(itertools.combinations(people, 2))
                wishes = {pair: chance.random() < 0.5 for pair in pairs if chance.random() < 0.4}
                house = House()
                house.put(company, manner)
                self.assertEqual(house.way(0), [])
                self.assertIs(house.is_way(0, []), True)
                met.append(can_be_met(company, manner, wishes))
                if not met[-1]:
                    with self.assertRaises(Refused) as caught:
                        house.wish(0, wishes)
                    self.assertIs(caught.exception.value, wishes)
                    self.assertIsNone(house.wishes_there(0))
                    continue
                self.assertIsNone(house.wish(0, wishes))
                self.check_way(house, company, manner, wishes)
        self.assertIn(True, met)
        self.assertIn(False, met)

    def check_way(self, house, company, manner, wishes):
        way = house.way(0)
        self.assertTrue(does_meet(plain.walked(company, manner, way).friends(), wishes))
        self.assertEqual(way == [], does_meet(company.friends(), wishes) or way == [])
        if does_meet(company.friends(), wishes):
            self.assertEqual(way, [])
        pairs = list(itertools.combinations(company.people(), 2))
        for size in range(3):
            for road in itertools.product(pairs, repeat=size):
                end = plain.walked(company, manner, list(road))
                told = end is not None and does_meet(end.friends(), wishes)
                self.assertIs(house.is_way(0, list(road)), told)
        for value in [None, tuple(way) or ("a", "b"), [None], {}, "ab", [["a", "b"]], [("b", "a")], [("a", "z")]]:
            self.assertIs(house.is_way(0, value), False)

    def test_no_wishes_and_empty_wishes(self):
        house = House()
        house.put(Company(ABC, []), EVEN)
        self.assertIs(house.is_met(0), True)
        with self.assertRaises(Refused) as caught:
            house.unwish(0)
        self.assertEqual(caught.exception.value, 0)
        house.wish(0, {})
        self.assertEqual(house.wishes_there(0), {})
        self.assertIs(house.is_met(0), True)
        self.assertEqual(house.way(0), [])
        self.assertIsNone(house.unwish(0))
        self.assertIsNone(house.wishes_there(0))
        self.assertEqual([command[0] for command in house.log()], ["put", "wish", "unwish"])

    def test_new_wishes_in_the_place_of_the_old(self):
        house = House()
        house.put(Company(ABC, []), EVEN)
        house.wish(0, {("a", "b"): True})
        house.wish(0, {("b", "c"): True})
        self.assertEqual(house.wishes_there(0), {("b", "c"): True})
        self.assertIs(house.is_met(0), False)
        house.deed(0, ("b", "c"))
        self.assertIs(house.is_met(0), True)
        with self.assertRaises(Refused):
            house.wish(0, {("a", "b"): True, ("a", "c"): True, ("b", "c"): True})
        self.assertEqual(house.wishes_there(0), {("b", "c"): True})

    def test_five_people(self):
        chance = random.Random(6)
        people = ABCD + ["e"]
        for manner in [EVEN, ODD, TIES_ODD, ((0, 1), "even")]:
            for _ in range(3):
                company = some_company(chance, people)
                pairs = list(itertools.combinations(people, 2))
                wishes = {pair: chance.random() < 0.5 for pair in chance.sample(pairs, chance.choice([2, 5, 8]))}
                house = House()
                house.put(company, manner)
                if can_be_met(company, manner, wishes):
                    house.wish(0, wishes)
                    end = plain.walked(company, manner, house.way(0))
                    self.assertTrue(does_meet(end.friends(), wishes))
                else:
                    with self.assertRaises(Refused):
                        house.wish(0, wishes)

    def test_wishes_hold_back_guests_and_those_who_leave(self):
        # Two people: under common friends even they may befriend; a third one as a friend of both would be between.
        house = House()
        house.put(Company(["a", "b"], []), ((0,), "odd"))
        self.assertEqual(house.lets(0), [])
        house.wish(0, {("a", "b"): False})
        house.guest(0, "c")
        self.assertEqual(house.lets(0), [("a", "b"), ("a", "c"), ("b", "c")])
        house.wish(0, {("a", "b"): True})
        with self.assertRaises(Refused) as caught:
            house.leave(0, "c")
        self.assertEqual(caught.exception.value, "c")
        house.wish(0, {("a", "b"): False})
        house.leave(0, "c")
        # A guest can put wishes out of reach, too.
        house = House()
        house.put(Company(["a", "b"], []), ((0,), "even"))
        house.wish(0, {("a", "b"): True})
        with self.assertRaises(Refused) as caught:
            house.guest(0, "c")
        self.assertEqual(caught.exception.value, "c")
        house.unwish(0)
        house.guest(0, "c")
        self.assertEqual(house.company_there(0).people(), ABC)

    def test_leaving(self):
        house = House()
        house.put(Company(ABC, [("a", "b")]), EVEN)
        house.put(Company(["z"], []), EVEN)
        for spot, person, error in [(0, "a", Refused), (1, "z", Refused), (0, "z", InvalidPerson), (1, "a", InvalidPerson)]:
            with self.assertRaises(error) as caught:
                house.leave(spot, person)
            self.assertEqual(caught.exception.value, person)
        house.wish(0, {("a", "c"): False})
        with self.assertRaises(Refused):
            house.leave(0, "c")
        house.wish(0, {("a", "b"): True})
        self.assertIsNone(house.leave(0, "c"))
        self.assertEqual(house.company_there(0), Company(["a", "b"], [("a", "b")]))


class Exchanges(unittest.TestCase):
    def test_exchange_and_manners(self):
        lot = list(support.all_companies(ABC)) + [Company(["a", "b"], []), Company(ABCD, [])]
        for one, other in itertools.product(lot, repeat=2):
            for manner in FOUR_MANNERS + [((0, 1), "even")]:
                house = House()
                house.put(one, manner)
                if one.people() != other.people():
                    for call in [house.exchange, house.manners_for]:
                        with self.assertRaises(Unlike) as caught:
                            call(0, other)
                        self.assertIs(caught.exception.value, other)
                    continue
                joined = [told for told in FOUR_MANNERS if plain.are_joined(one, other, told)]
                self.assertEqual(house.manners_for(0, other), joined)
                if plain.are_joined(one, other, manner):
                    self.assertIsNone(house.exchange(0, other))
                    self.assertEqual(house.company_there(0), other)
                    self.assertEqual(house.log()[-1], ("exchange", 0, other))
                else:
                    with self.assertRaises(Apart) as caught:
                        house.exchange(0, other)
                    self.assertIs(caught.exception.value, other)

    def test_the_wishes_stay(self):
        house = House()
        house.put(Company(ABC, []), EVEN)
        house.wish(0, {("a", "b"): True})
        house.exchange(0, Company(ABC, [("a", "c")]))
        self.assertEqual(house.wishes_there(0), {("a", "b"): True})
        house.to_manner(0, TIES_EVEN)
        self.assertEqual(house.wishes_there(0), {("a", "b"): True})
        with self.assertRaises(Refused) as caught:
            house.to_manner(0, ((), "odd"))
        self.assertEqual(caught.exception.value, ((), "odd"))
        self.assertEqual(house.manner_there(0), TIES_EVEN)
        self.assertIsNone(house.to_manner(0, TIES_EVEN))
        self.assertEqual(len(house.log()), 5)

    def test_joined_spots(self):
        house = House()
        none, ab, triangle = Company(ABC, []), Company(ABC, [("a", "b")]), Company(ABC, list(itertools.combinations(ABC, 2)))
        for company, manner in [(none, EVEN), (triangle, EVEN), (ab, ODD), (Company(ABCD, []), EVEN), (none, TIES_ODD)]:
            house.put(company, manner)
        self.assertEqual([house.joined_spots(spot) for spot in house.spots()], [[2, 4], [], [], [], [0]])
        house.take(2)
        self.assertEqual(house.joined_spots(0), [4])

    def test_swap(self):
        house = House()
        none, ab, triangle = Company(ABC, []), Company(ABC, [("a", "b")]), Company(ABC, list(itertools.combinations(ABC, 2)))
        for company, manner in [(none, EVEN), (ab, EVEN), (ab, ODD), (triangle, EVEN), (Company(ABCD, []), EVEN)]:
            house.put(company, manner)
        house.wish(0, {("a", "b"): True})
        self.assertIsNone(house.swap(0, 1))
        self.assertEqual((house.company_there(0), house.company_there(1)), (ab, none))
        self.assertEqual((house.wishes_there(0), house.wishes_there(1)), ({("a", "b"): True}, None))
        for spot, other, error, value in [
            (0, 0, InvalidSpot, 0), (0, 9, InvalidSpot, 9), (9, 0, InvalidSpot, 9), (9, 9, InvalidSpot, 9),
            (0, True, InvalidSpot, True), (0, 4, Unlike, Company(ABCD, [])), (0, 3, Apart, triangle),
            (1, 2, Refused, 2), (2, 1, Apart, none),
        ]:
            with self.assertRaises(error) as caught:
                house.swap(spot, other)
            self.assertEqual(caught.exception.value, value)
        self.assertEqual(house.log()[-1], ("swap", 0, 1))

    def test_seven_people(self):
        chance = random.Random(8)
        people = ABCD + ["e", "f", "g"]
        house = House()
        for manner in FOUR_MANNERS:
            house.put(some_company(chance, people), manner)
        for spot in house.spots():
            company, manner = house.company_there(spot), house.manner_there(spot)
            let = Plain(company).let(manner)
            self.assertEqual(house.lets(spot), let)
            for pair in let[:3]:
                friends = pair not in house.company_there(spot).friends()
                if pair in house.lets(spot):
                    self.assertIs(house.deed(spot, pair), friends)
            house.exchange(spot, company)
            self.assertIn(manner, house.manners_for(spot, company))


class UndoAndBlocks(unittest.TestCase):
    def make(self):
        house = House()
        house.put(Company(ABC, []), EVEN)
        house.deed(0, ("a", "b"))
        house.deed(0, ("b", "c"))
        return house

    def test_undo_and_redo(self):
        house = self.make()
        self.assertIsNone(house.undo())
        self.assertEqual(house.company_there(0).friends(), [("a", "b")])
        # Neither asking nor a call that raises an error is a command.
        house.lets(0), house.is_met(0), house.way(0), house.spots(), house.log(), house.joined_spots(0), house.copy()
        house.is_way(0, None), house.company_there(0), house.manners_for(0, Company(ABC, []))
        for call in [lambda: house.deed(0, ("a", "d")), lambda: house.take(5), lambda: house.unwish(0)]:
            with self.assertRaises(FriendError):
                call()
        self.assertIsNone(house.redo())
        self.assertEqual(house.company_there(0).friends(), [("a", "b"), ("b", "c")])
        with self.assertRaises(NothingToRedo):
            house.redo()
        house.undo()
        house.undo()
        house.deed(0, ("a", "c"))
        with self.assertRaises(NothingToRedo):
            house.redo()
        for _ in range(2):
            house.undo()
        with self.assertRaises(NothingToUndo):
            house.undo()
        self.assertEqual(house.spots(), [])
        house.redo()
        house.redo()
        self.assertEqual(house.company_there(0).friends(), [("a", "c")])

    def test_blocks_reach_behind_their_beginning(self):
        house = self.make()
        house.undo()
        told = support.house_told(house)
        with house.trial() as same:
            self.assertIs(same, house)
            house.undo()
            house.undo()
            self.assertEqual(house.spots(), [])
            with self.assertRaises(NothingToUndo):
                house.undo()
            for _ in range(3):
                house.redo()
            self.assertEqual(house.company_there(0).friends(), [("a", "b"), ("b", "c")])
            house.put(Company(["z"], []), ODD)
        self.assertEqual(support.house_told(house), told)
        house.redo()
        self.assertEqual(house.company_there(0).friends(), [("a", "b"), ("b", "c")])

    def test_a_block_begins_when_it_is_entered(self):
        house = self.make()
        block = house.trial()
        house.deed(0, ("a", "b"))
        told = support.house_told(house)
        with block:
            house.take(0)
        self.assertEqual(support.house_told(house), told)

    def test_blocks_within_blocks(self):
        house = self.make()
        told = [support.house_told(house)]
        with house.trial():
            house.deed(0, ("a", "b"))
            told.append(support.house_told(house))
            with house.trial():
                house.take(0)
                self.assertEqual(house.attempt(lambda same: same.spots()), [])
                house.undo()
                house.undo()
            self.assertEqual(support.house_told(house), told[1])
            self.assertIs(house.attempt(lambda same: same), house)
        self.assertEqual(support.house_told(house), told[0])

    def test_ten_deep(self):
        house = self.make()

        def deeper(same, depth):
            told = support.house_told(same)
            if depth > 0:
                same.attempt(lambda inner: (inner.undo() if depth % 2 else inner.put(Company(["z"], []), EVEN), deeper(inner, depth - 1)))
            self.assertEqual(support.house_told(same), told)

        house.put(Company(["q"], []), EVEN)
        for _ in range(4):
            house.put(Company(["q"], []), EVEN)
        deeper(house, 10)
        self.assertEqual(len(house.spots()), 6)

    def test_attempt_returns_the_very_object(self):
        house = self.make()
        for thing in [[], {}, object(), None, house, True, (1, [2])]:
            self.assertIs(house.attempt(lambda same: thing), thing)
        seen = []
        house.attempt(seen.append)
        self.assertEqual(len(seen), 1)
        self.assertIs(seen[0], house)

    def test_errors_go_on(self):
        house = self.make()
        told = support.house_told(house)
        for error in [KeyError("k"), Refused("r"), ValueError("v")]:
            with self.assertRaises(type(error)) as caught:
                with house.trial():
                    house.take(0)
                    raise error
            self.assertIs(caught.exception, error)
            with self.assertRaises(type(error)) as caught:
                house.attempt(lambda same: (same.undo(), raising(error)))
            self.assertIs(caught.exception, error)
            self.assertEqual(support.house_told(house), told)

    def test_copies(self):
        house = self.make()
        house.undo()
        with house.trial():
            house.put(Company(["z"], []), ODD)
            other = house.copy()
            told = support.house_told(other)
        # The copy is in no block: it stays as it was.
        self.assertEqual(support.house_told(other), told)
        self.assertEqual((house.spots(), other.spots()), ([0], [0, 1]))
        other.undo()
        self.assertEqual(other.put(Company(["z"], []), ODD), 1)
        house.redo()
        self.assertEqual(house.company_there(0).friends(), [("a", "b"), ("b", "c")])
        self.assertEqual(other.company_there(0).friends(), [("a", "b")])
        self.assertIsNot(house.copy(), house)


def raising(error):
    raise error


class Logs(unittest.TestCase):
    def test_replayed(self):
        house = support.a_house()
        log = house.log()
        other = replayed(House(), log)
        self.assertEqual(support.told_now(other), support.told_now(house))
        for _ in log:
            other.undo()
        self.assertEqual(other.spots(), [])
        twice = replayed(house, [("put", Company(["z"], []), EVEN), ("take", 0)])
        self.assertEqual(twice.spots(), [1, 2])
        self.assertEqual(house.spots(), [0, 1])
        self.assertEqual(len(twice.log()), len(log) + 2)
        self.assertEqual(twice.log()[:len(log)], log)
        with self.assertRaises(NothingToRedo):
            twice.redo()
        # Nothing to be made: even what was taken back stays.
        self.assertEqual(support.house_told(replayed(house, [])), support.house_told(house))

    def test_each_command_is_in_the_log(self):
        house = House()
        none, ab = Company(ABC, []), Company(ABC, [("a", "b")])
        house.put(none, EVEN)
        house.put(ab, EVEN)
        house.put(ab, EVEN)
        house.take(2)
        house.deed(0, ("a", "c"))
        house.wish(0, {("b", "c"): False, ("a", "b"): True})
        house.unwish(0)
        house.guest(0, "d")
        house.leave(0, "d")
        house.exchange(0, ab)
        house.to_manner(0, TIES_EVEN)
        house.swap(0, 1)
        expected = [
            ("put", none, EVEN), ("put", ab, EVEN), ("put", ab, EVEN), ("take", 2), ("deed", 0, ("a", "c")),
            ("wish", 0, {("a", "b"): True, ("b", "c"): False}), ("unwish", 0), ("guest", 0, "d"), ("leave", 0, "d"),
            ("exchange", 0, ab), ("to_manner", 0, TIES_EVEN), ("swap", 0, 1),
        ]
        self.assertEqual(support.frozen(house.log()), support.frozen(expected))
        self.assertEqual(support.told_now(replayed(House(), house.log())), support.told_now(house))
        house.undo()
        self.assertEqual(house.log(), expected[:-1])
        # One entry left out, or wrong: the error of the first command that raises one.
        for at, error, value in [(0, InvalidSpot, 2), (5, Refused, 0), (7, InvalidPerson, "d"), (3, None, None), (9, None, None)]:
            bent = expected[:at] + expected[at + 1:]
            raised = support.error_of(replayed, [House(), bent])
            self.assertIs(type(raised), error if error else type(None))
            self.assertEqual(getattr(raised, "value", None), value)

    def test_errors_of_commands(self):
        one = Company(["a", "b"], [])
        put = ("put", one, EVEN)
        for command, error in [
            (("put", None, EVEN), InvalidCompany), (("put", one, None), InvalidManner), (("take", True), InvalidSpot),
            (("deed", 0, None), InvalidPair), (("wish", 0, None), InvalidWishes), (("unwish", 0), Refused),
            (("guest", 0, None), InvalidPerson), (("leave", 0, None), InvalidPerson), (("exchange", 0, None), InvalidCompany),
            (("exchange", 0, Company(["a"], [])), Unlike), (("to_manner", 0, None), InvalidManner),
            (("swap", 0, 0), InvalidSpot), (("swap", None, 0), InvalidSpot),
        ]:
            house = House()
            with self.assertRaises(error):
                replayed(house, [put, command, ("take", 99)])
            self.assertEqual(house.spots(), [])

    def test_wrong(self):
        for log in calls.a_log().wrongs():
            with self.assertRaises(InvalidLog) as caught:
                replayed(support.a_house(), log)
            self.assertIs(caught.exception.value, log)
            if not isinstance(log, House):
                with self.assertRaises(InvalidHouse) as caught:
                    replayed(log, None)
                self.assertIs(caught.exception.value, log)


def a_spot(name="spot"):
    near = [[0], (0,), "0", -1, 2, 10 ** 29, True, False]
    return calls.Argument(name, InvalidSpot, [0, 1], support.is_number_below(2), near)


def abc_wishes():
    def is_right(value):
        return calls.is_wishes(value) and all(support.is_pair_among(ABC)(pair) for pair in value)

    near = calls.WRONG_WISHES + [{("a", "d"): True}, {("y", "z"): False}]
    return calls.Argument("wishes", InvalidWishes, [{("a", "c"): True}, {}], is_right, [one for one in near if not is_right(one)])


def abc_pair():
    near = [("a", "d"), ("c", "a"), ["a", "c"], ("a", "a"), "ac", ("a", ["c"]), ("a", "b", "c")]
    return calls.Argument("pair", InvalidPair, [("a", "c")], support.is_pair_among(ABC), near)


def abc_person(is_there):
    def is_right(value):
        return support.is_word(value) and (value in ABC) == is_there

    near = ["a", "c", "e", "abcdefghi", ["a"], ("e",), "E", ""]
    rights = ["d"] if not is_there else ["c"]
    return calls.Argument("person", InvalidPerson, rights, is_right, [one for one in near if not is_right(one)])


# Each method with its arguments; they are right, one by one, at the house below.
METHODS = [
    ("put", [calls.a_company(), calls.a_manner()]), ("take", [a_spot()]), ("company_there", [a_spot()]),
    ("manner_there", [a_spot()]), ("wishes_there", [a_spot()]), ("deed", [a_spot(), abc_pair()]), ("lets", [a_spot()]),
    ("wish", [a_spot(), abc_wishes()]), ("unwish", [a_spot()]), ("is_met", [a_spot()]), ("way", [a_spot()]),
    ("is_way", [a_spot(), calls.Judged([[], [("a", "c")], None])]), ("guest", [a_spot(), abc_person(False)]),
    ("leave", [a_spot(), abc_person(True)]), ("exchange", [a_spot(), calls.a_company()]),
    ("to_manner", [a_spot(), calls.a_manner()]), ("manners_for", [a_spot(), calls.a_company()]),
    ("joined_spots", [a_spot()]), ("swap", [a_spot(), a_spot("other")]),
]
ASKING = [
    "spots", "company_there", "manner_there", "wishes_there", "lets", "is_met", "way", "is_way", "manners_for",
    "joined_spots", "log", "copy",
]


def the_house():
    house = support.a_house()
    house.put(Company(ABC, []), EVEN)
    house.take(2)
    house.undo()
    house.undo()
    return house


class WrongArguments(unittest.TestCase):
    def check(self, name, args, error, wrong, by_name=None):
        house = the_house()
        before = support.house_told(house)
        raised = support.error_of(getattr(house, name), args, by_name)
        self.assertIs(type(raised), error, (name, args))
        self.assertIs(raised.value, wrong, (name, args))
        self.assertEqual(support.house_told(house), before, name)

    def right(self, argument):
        if argument.name == "company":
            return Company(ABC, [("a", "b")])
        return argument.rights[0] if argument.name != "other" else 1

    def test_each_alone(self):
        for name, arguments in METHODS:
            for at, argument in enumerate(arguments):
                for wrong in argument.wrongs() + ([0] if argument.name == "other" else []):
                    args = [self.right(one) for one in arguments]
                    args[at] = wrong
                    self.check(name, args, argument.error, wrong)

    def test_the_first_of_several(self):
        for name, arguments in METHODS:
            if len(arguments) == 2:
                seconds = arguments[1].wrongs() or support.any_objects()
                for at, wrong in enumerate(arguments[0].wrongs()):
                    self.check(name, [wrong, seconds[at % len(seconds)]], arguments[0].error, wrong)

    def test_by_name(self):
        for name, arguments in METHODS:
            wrong = arguments[0].wrongs()[7]
            by_name = {argument.name: self.right(argument) for argument in arguments}
            by_name[arguments[0].name] = wrong
            self.check(name, [], arguments[0].error, wrong, by_name)

    def test_right_by_position_and_by_name(self):
        for name, arguments in METHODS:
            one, other = the_house(), the_house()
            args = [self.right(argument) for argument in arguments]
            if name in ["unwish", "leave", "swap", "exchange"]:
                self.prepare(one), self.prepare(other)
            by_name = {argument.name: arg for argument, arg in zip(arguments, args)}
            told = getattr(one, name)(*args)
            self.assertEqual(support.frozen(told), support.frozen(getattr(other, name)(**by_name)))
            self.assertEqual(support.house_told(one), support.house_told(other))
            if name in ASKING:
                self.assertEqual(support.frozen(getattr(one, name)(*args)), support.frozen(told))

    def prepare(self, house):
        house.wish(0, {})
        house.to_manner(1, EVEN)

    def test_any_object_is_judged(self):
        house = the_house()
        before = support.house_told(house)
        for value in support.any_objects():
            self.assertIs(type(house.is_way(0, value)), bool)
        self.assertIs(house.is_way(0, None), False)
        self.assertEqual(support.house_told(house), before)

    def test_asking_changes_nothing(self):
        house = the_house()
        before = support.house_told(house)
        for name in ASKING:
            arguments = dict(METHODS).get(name, [])
            answer = getattr(house, name)(*[self.right(argument) for argument in arguments])
            support.spoil(answer)
            self.assertEqual(support.house_told(house), before, name)


if __name__ == "__main__":
    unittest.main()
