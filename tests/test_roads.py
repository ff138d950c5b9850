"""Points [30] to [35]: deeds and roads."""

import itertools
import random
import unittest

from evenfriends.companies import Company
from evenfriends.errors import InvalidCount, InvalidRoad
from evenfriends.roads import (
    companies_on, cut_short, differing_pairs, exchanged, is_road, leads_to, least_road, led, road_at, road_back,
    road_place, roads_of, same_but_order,
)
from tests import calls, support
from tests.plain import EVEN, MANNERS, ODD, Plain, TIES_ODD, behind, let_at, key, walked

NINE = ["a", "b", "c", "d", "e", "f", "g", "h", "i"]


def strolls(seed, many, people, size, manners=(EVEN, ODD, TIES_ODD, ((), "even"), ((0, 1), "odd"))):
    """Some companies with a manner and a road of at most so many deeds, each deed let where it stands."""
    chance = random.Random(seed)
    for at in range(many):
        lot = people[:chance.randint(1, len(people))]
        pairs = list(itertools.combinations(lot, 2))
        company = Company(lot, [pair for pair in pairs if chance.random() < [0.2, 0.5, 0.8][at % 3]])
        manner = manners[at % len(manners)]
        now, road = Plain(company), []
        for _ in range(chance.randint(0, size)):
            let = now.let(manner)
            if not let:
                break
            road.append(chance.choice(let))
            now = now.turned(road[-1])
        yield company, manner, road, now.company()


def all_roads(company, manner, size):
    """The ascending list of the roads of so many deeds, by a plain walk through all of them."""
    found = [([], company)]
    for _ in range(size):
        found = [
            (road + [pair], behind(now, [pair])) for road, now in found for pair in let_at(key(now), manner)
        ]
    return [road for road, _ in found]


def all_orders(road):
    """All lists that exchanges of neighbouring pairs without a common person make of a road."""
    met = [road]
    for one in met:
        for at in range(len(one) - 1):
            if not set(one[at]) & set(one[at + 1]):
                other = one[:at] + [one[at + 1], one[at]] + one[at + 2:]
                if other not in met:
                    met.append(other)
    return met


class Roads(unittest.TestCase):
    def test_roads_and_where_they_lead(self):
        for company, manner, road, end in strolls(1, 300, NINE[:6], 7):
            self.assertIs(is_road(company, manner, road), True)
            self.assertEqual(led(company, manner, road), end)
            on = companies_on(company, manner, road)
            self.assertEqual(on, [behind(company, road[:at]) for at in range(len(road) + 1)])
            self.assertEqual((on[0], on[-1]), (company, end))

    def test_lists_of_pairs_of_every_kind(self):
        """All lists of two and of three pairs of three people, and of some of four, are judged as a walk judges them."""
        for company in support.all_companies(["a", "b", "c"]):
            pairs = Plain(company).pairs
            for manner in MANNERS:
                for size in range(4):
                    for lot in itertools.product(pairs, repeat=size):
                        expected = walked(company, manner, list(lot))
                        self.assertIs(is_road(company, manner, list(lot)), expected is not None)
                        if expected is None:
                            raised = support.error_of(led, [company, manner, list(lot)])
                            self.assertIs(type(raised), InvalidRoad)

    def test_an_empty_road(self):
        for company in support.all_companies(["a", "b", "c"]):
            for manner in MANNERS:
                self.assertIs(is_road(company, manner, []), True)
                self.assertEqual(led(company, manner, []), company)
                self.assertEqual(companies_on(company, manner, []), [company])
                self.assertEqual((road_back(company, manner, []), cut_short(company, manner, [])), ([], []))
                self.assertEqual((least_road(company, manner, []), roads_of(company, manner, 0)), ([], 1))
                self.assertEqual((road_at(company, manner, 0, 0), road_place(company, manner, [])), ([], 0))
                self.assertIs(type(support.error_of(exchanged, [company, manner, [], 0])), InvalidCount)
                self.assertIs(type(support.error_of(road_at, [company, manner, 0, 1])), InvalidCount)

    def test_things_that_are_no_roads(self):
        for value in calls.a_road().wrongs():
            self.assertIs(is_road(calls.square(), EVEN, value), False)
            self.assertIs(leads_to(calls.square(), calls.square(), EVEN, value), False)
            self.assertIs(same_but_order(calls.square(), EVEN, calls.ROAD, value), False)

    def test_a_pair_twice_in_a_row(self):
        for company in support.all_companies(["a", "b", "c", "d"]):
            for manner in [EVEN, ODD]:
                for pair in Plain(company).let(manner):
                    self.assertEqual(led(company, manner, [pair, pair]), company)
                    self.assertEqual(cut_short(company, manner, [pair, pair]), [])
                    self.assertEqual(exchanged(company, manner, [pair, pair], 0), [pair, pair])
                    self.assertEqual(least_road(company, manner, [pair, pair, pair]), [pair] * 3)

    def test_four_hundred_deeds(self):
        for company, manner, road, end in strolls(2, 4, NINE, 0):
            let = Plain(company).let(EVEN)
            long = let[:1] * 400
            if let:
                self.assertEqual(led(company, EVEN, long), company)
                self.assertEqual(cut_short(company, EVEN, long), [])
                self.assertEqual(least_road(company, EVEN, long), long)
                self.assertEqual(len(companies_on(company, EVEN, long)), 401)
                self.assertIs(same_but_order(company, EVEN, long, long[1:]), False)
        four = Company(NINE, [])
        long = [("c", "d"), ("a", "b")] * 200
        self.assertEqual(least_road(four, EVEN, long), [("a", "b")] * 200 + [("c", "d")] * 200)
        self.assertIs(same_but_order(four, EVEN, long, [("a", "b")] * 200 + [("c", "d")] * 200), True)

    def test_differing_pairs(self):
        lot = list(support.all_companies(["a", "b", "c"])) + list(support.all_companies(["x"]))
        for one in lot:
            for other in lot:
                if one.people() == other.people():
                    expected = sorted(set(one.friends()) ^ set(other.friends()))
                    self.assertEqual(differing_pairs(one, other), expected)

    def test_leads_to(self):
        for company, manner, road, end in strolls(3, 120, NINE[:5], 6):
            self.assertIs(leads_to(company, end, manner, road), True)
            self.assertEqual(end, behind(company, road))
            for other in [behind(end, [pair]) for pair in Plain(end).pairs]:
                self.assertIs(leads_to(company, other, manner, road), False)
                self.assertIs(leads_to(other, end, manner, road), walked(other, manner, road) == end)


class Changed(unittest.TestCase):
    def test_road_back(self):
        for company, manner, road, end in strolls(4, 200, NINE[:6], 7):
            back = road_back(company, manner, road)
            self.assertEqual(back, road[::-1])
            self.assertEqual(walked(end, manner, back), company)

    def test_cut_short(self):
        for company, manner, road, end in strolls(5, 600, NINE[:4], 12):
            short = cut_short(company, manner, road)
            expected, rest, now = [], list(road), company
            while True:
                last = max(at for at in range(len(rest) + 1) if behind(now, rest[:at]) == now)
                rest = rest[last:]
                if not rest:
                    break
                expected.append(rest.pop(0))
                now = behind(now, expected[-1:])
            self.assertEqual(short, expected)
            self.assertEqual(walked(company, manner, short), end)
            on = [key(behind(company, short[:at])) for at in range(len(short) + 1)]
            self.assertEqual(len(set(on)), len(on))

    def test_exchanged(self):
        for company, manner, road, _ in strolls(6, 200, NINE[:5], 6):
            for at in range(len(road) + 2):
                if at + 1 < len(road):
                    made = road[:at] + [road[at + 1], road[at]] + road[at + 2:]
                    expected = made if walked(company, manner, made) is not None else None
                    self.assertEqual(exchanged(company, manner, road, at), expected)
                    if not set(road[at]) & set(road[at + 1]):
                        self.assertIsNotNone(expected)
                else:
                    raised = support.error_of(exchanged, [company, manner, road, at])
                    self.assertIs(type(raised), InvalidCount)
                    self.assertIs(raised.value, at)

    def test_least_road_of_all_orders(self):
        tried = 0
        for company, manner, road, end in strolls(7, 300, NINE, 7):
            orders = all_orders(road)
            tried += len(orders) > 3
            self.assertEqual(least_road(company, manner, road), min(orders))
            for other in orders[:20]:
                self.assertEqual(walked(company, manner, other), end)
                self.assertIs(same_but_order(company, manner, road, other), True)
            for other in [road[1:], road + road[:1], road[::-1], road[:2][::-1] + road[2:]]:
                self.assertIs(same_but_order(company, manner, road, other), other in orders)
        self.assertGreater(tried, 50)


class Counted(unittest.TestCase):
    def test_all_roads_of_small_companies(self):
        for people, sizes in [(["a"], 4), (["a", "b"], 4), (["a", "b", "c"], 4), (["a", "b", "c", "d"], 2)]:
            for at, company in enumerate(support.all_companies(people)):
                for manner in MANNERS[at % 3::3]:
                    for size in range(sizes + 1):
                        roads = all_roads(company, manner, size)
                        self.assertEqual(roads, sorted(roads))
                        self.assertEqual(roads_of(company, manner, size), len(roads))
                        for number in [0, 1, len(roads) // 2, len(roads) - 1]:
                            if 0 <= number < len(roads):
                                self.assertEqual(road_at(company, manner, size, number), roads[number])
                                self.assertEqual(road_place(company, manner, roads[number]), number)
                        raised = support.error_of(road_at, [company, manner, size, len(roads)])
                        self.assertIs(type(raised), InvalidCount)
                        self.assertEqual(raised.value, len(roads))

    def test_each_position(self):
        company = calls.square()
        for manner in [EVEN, ((1,), "even"), ((0, 1), "odd")]:
            roads = all_roads(company, manner, 3)
            self.assertEqual([road_at(company, manner, 3, at) for at in range(len(roads))], roads)
            self.assertEqual([road_place(company, manner, road) for road in roads], list(range(len(roads))))

    def test_sizes_to_eight_of_five_people(self):
        five = Company(support.LETTERS, [("a", "b"), ("b", "c")])
        self.assertEqual(roads_of(five, ((), "even"), 8), 10 ** 8)
        self.assertEqual(road_at(five, ((), "even"), 8, 0), [("a", "b")] * 8)
        self.assertEqual(road_at(five, ((), "even"), 8, 10 ** 8 - 1), [("d", "e")] * 8)
        self.assertEqual(roads_of(five, ((), "odd"), 8), 0)
        for manner in [EVEN, ODD, TIES_ODD]:
            many = roads_of(five, manner, 8)
            for number in [0, many // 3, many - 1]:
                road = road_at(five, manner, 8, number)
                self.assertEqual(len(road), 8)
                self.assertIsNotNone(walked(five, manner, road))
                self.assertEqual(road_place(five, manner, road), number)
            self.assertIs(type(support.error_of(road_at, [five, manner, 8, many])), InvalidCount)

    def test_counted_from_the_numbers_behind_one_deed(self):
        for company in list(support.all_companies(["a", "b", "c", "d"]))[::5]:
            for manner in [EVEN, ODD]:
                rest = [roads_of(behind(company, [pair]), manner, 4) for pair in Plain(company).let(manner)]
                self.assertEqual(roads_of(company, manner, 5), sum(rest))

    def test_the_size_is_judged_ahead_of_the_number(self):
        for size in [-1, True, None, "2", [2]]:
            raised = support.error_of(road_at, [calls.square(), EVEN, size, None])
            self.assertIs(type(raised), InvalidCount)
            self.assertIs(raised.value, size)


if __name__ == "__main__":
    unittest.main()
