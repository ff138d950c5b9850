"""The blocks of examples of the document, with the answers that stand there."""

import unittest

from tests import support

SECTION_3 = '''
from evenfriends.companies import Company, are_friends, changed, company_at, company_number, cone, cut_to, friend_numbers, friends_of, opposite, renamed, side_by_side, strangers
square = Company(["d", "c", "b", "a"], [("c", "d"), ("b", "c"), ("a", "b"), ("a", "d")])
[square.people(), square.friends(), strangers(square), friends_of(square, "a"), are_friends(square, ("a", "c")), friend_numbers(square)]
# [['a', 'b', 'c', 'd'], [('a', 'b'), ('a', 'd'), ('b', 'c'), ('c', 'd')], [('a', 'c'), ('b', 'd')], ['b', 'd'], False, {'a': 2, 'b': 2, 'c': 2, 'd': 2}]
[changed(square, ("come", "e")).people(), changed(square, ("part", ("a", "b"))).friends(), changed(square, ("leave", "a")).friends(), opposite(square).friends()]
# [['a', 'b', 'c', 'd', 'e'], [('a', 'd'), ('b', 'c'), ('c', 'd')], [('b', 'c'), ('c', 'd')], [('a', 'c'), ('b', 'd')]]
[cone(Company(["a", "c"], []), "b").friends(), side_by_side(Company(["z"], []), Company(["x", "y"], [("x", "y")])).people(), cut_to(square, ["c", "a", "b"]).friends()]
# [[('a', 'b'), ('b', 'c')], ['x', 'y', 'z'], [('a', 'b'), ('b', 'c')]]
[renamed(square, {"a": "b", "b": "a", "c": "c", "d": "d"}).friends(), company_number(square), company_at(["d", "b", "a", "c"], 45) == square]
# [[('a', 'b'), ('a', 'c'), ('b', 'd'), ('c', 'd')], 45, True]
'''

SECTION_4 = '''
from evenfriends.companies import Company
from evenfriends.triples import fork_number, forks, kind_numbers, kinds_moved, odd_friends, odd_pairs, odd_people, third_people, triple_numbers, triples_moved, triples_of
square = Company(["a", "b", "c", "d"], [("a", "b"), ("a", "d"), ("b", "c"), ("c", "d")])
bow = Company(["a", "b", "c", "d", "e"], [("a", "b"), ("a", "c"), ("a", "d"), ("a", "e"), ("b", "c"), ("d", "e")])
[third_people(bow, ("a", "b"), 2), third_people(bow, ("b", "d"), 1), kind_numbers(bow, ("a", "b")), kind_numbers(square, ("a", "c"))]
# [['c'], ['c', 'e'], [0, 2, 1], [0, 0, 2]]
[triple_numbers(bow), triples_of(bow, 3), triple_numbers(square), triples_moved(square, ("a", "c")), triples_moved(bow, ("a", "b"))]
# [[0, 4, 4, 2], [('a', 'b', 'c'), ('a', 'd', 'e')], [0, 0, 4, 0], [0, 0, -2, 2], [0, 2, -1, -1]]
[forks(bow, "b"), fork_number(bow), odd_people(bow), odd_people(square), odd_pairs(bow, 2) == odd_pairs(square, 2), len(odd_pairs(bow, 2)), odd_friends(square, "a", 1)]
# [[('a', 'c')], 10, [], [], False, 10, []]
kinds_moved(Company(["a", "b", "c"], [("a", "b")]), ("a", "b"))
# [(('a', 'c'), 'b', 1, 0), (('b', 'c'), 'a', 1, 0)]
'''

SECTION_5 = '''
from evenfriends.companies import Company, opposite
from evenfriends.manners import alike_manners, are_alike, counted_people, freed_by, is_kept, kept_counts, let_number, let_pairs, lets_all, lets_none, manners_letting, opposite_manner, parity_of, real_manner
abc = ["a", "b", "c"]
lone_pair = Company(abc, [("a", "b")])
triangle = Company(abc, [("a", "b"), ("a", "c"), ("b", "c")])
square = Company(["a", "b", "c", "d"], [("a", "b"), ("a", "d"), ("b", "c"), ("c", "d")])
even, odd, ties = ((2,), "even"), ((2,), "odd"), ((1,), "odd")
[let_pairs(triangle, even), let_pairs(triangle, odd), let_pairs(lone_pair, even), let_pairs(lone_pair, ties), counted_people(square, even, ("a", "c"))]
# [[], [('a', 'b'), ('a', 'c'), ('b', 'c')], [('a', 'b'), ('a', 'c'), ('b', 'c')], [('a', 'c'), ('b', 'c')], ['b', 'd']]
[is_kept(even, ((3,), False)), is_kept(odd, ((3,), True)), is_kept(odd, ((3,), False)), is_kept(ties, ((2, 3), True)), parity_of(square, ((3,), True)), parity_of(triangle, ((3,), False))]
# [True, True, False, True, 0, 1]
kept_counts(even)
# [((), False), ((0, 1, 2), False), ((0, 1, 2, 3), False), ((3,), False)]
[are_alike(((0, 1), "even"), even, 4), are_alike(((0, 1), "even"), even, 5), alike_manners(even, 5), alike_manners(even, 2)[:2]]
# [True, False, [((0, 1), 'odd'), ((2,), 'even')], [((), 'even'), ((0,), 'even')]]
[opposite_manner(((0, 1), "odd")), real_manner(((0, 1), "even"), 5), real_manner(((1, 2), "even"), 4), real_manner(((0, 1, 2), "even"), 5)]
# [((1, 2), 'odd'), (((2,), 'odd'), False), (((2,), 'even'), True), (((), 'odd'), False)]
[lets_all(((0, 1, 2), "even"), 4), lets_none(((0, 1, 2), "even"), 5), lets_all(even, 2), lets_none(even, 1)]
# [True, True, True, True]
[let_number(lone_pair, ties), freed_by(lone_pair, ties, ("a", "c")), freed_by(square, even, ("a", "b")), len(manners_letting(triangle, []))]
# [2, 0, -2, 8]
'''

SECTION_6 = '''
from evenfriends.companies import Company
from evenfriends.roads import companies_on, cut_short, differing_pairs, exchanged, is_road, leads_to, least_road, led, road_at, road_back, road_place, roads_of, same_but_order
abc, even, odd = ["a", "b", "c"], ((2,), "even"), ((2,), "odd")
none, path = Company(abc, []), Company(abc, [("a", "b"), ("b", "c")])
[is_road(none, even, [("a", "b"), ("b", "c")]), is_road(none, even, [("a", "b"), ("b", "c"), ("a", "c")]), is_road(path, odd, [("a", "c"), ("a", "b")]), is_road(path, odd, [("a", "b")])]
# [True, False, True, False]
[led(none, even, [("a", "b"), ("b", "c")]) == path, differing_pairs(none, path), leads_to(none, path, even, [("a", "c"), ("b", "c"), ("a", "c"), ("a", "b")]), len(companies_on(none, even, [("a", "b")]))]
# [True, [('a', 'b'), ('b', 'c')], True, 2]
[road_back(none, even, [("a", "b"), ("b", "c")]), cut_short(none, even, [("a", "c"), ("a", "c"), ("a", "b")]), exchanged(path, odd, [("a", "c"), ("a", "b")], 0)]
# [[('b', 'c'), ('a', 'b')], [('a', 'b')], None]
[[roads_of(none, even, size) for size in [0, 1, 2, 3, 4]], [roads_of(path, odd, size) for size in [0, 1, 2, 3, 4]], road_at(none, even, 2, 1), road_place(none, even, [("b", "c"), ("b", "c")])]
# [[1, 3, 9, 21, 63], [1, 1, 3, 3, 9], [('a', 'b'), ('a', 'c')], 8]
four = Company(["a", "b", "c", "d"], [])
[least_road(four, even, [("c", "d"), ("b", "c"), ("a", "b"), ("c", "d")]), least_road(four, even, [("c", "d"), ("a", "b")]), same_but_order(four, even, [("c", "d"), ("a", "b")], [("c", "d"), ("a", "b")])]
# [[('c', 'd'), ('b', 'c'), ('a', 'b'), ('c', 'd')], [('a', 'b'), ('c', 'd')], True]
'''

SECTION_7 = '''
from evenfriends.companies import Company
from evenfriends.evens import always_and_never, even_mark, even_parting, even_road, fewest_evenly, grouped_evenly, is_even_road, is_lessening, joined_among, joined_evenly, least_evenly, odd_one
abc, abcd = ["a", "b", "c"], ["a", "b", "c", "d"]
none, ab, triangle = Company(abc, []), Company(abc, [("a", "b")]), Company(abc, [("a", "b"), ("a", "c"), ("b", "c")])
near = Company(abcd, [("a", "b"), ("a", "c"), ("b", "c"), ("c", "d")])
square = Company(abcd, [("a", "b"), ("a", "d"), ("b", "c"), ("c", "d")])
bow = Company(["a", "b", "c", "d", "e"], [("a", "b"), ("a", "c"), ("a", "d"), ("a", "e"), ("b", "c"), ("d", "e")])
[even_mark(none), even_mark(triangle), even_mark(near), even_mark(square), even_mark(bow), odd_one(near), odd_one(bow)]
# [('even',), ('lone',), ('nearly', 'd'), ('even',), ('lone',), 'd', None]
[joined_evenly(none, ab), joined_evenly(ab, triangle), even_parting(ab, triangle), even_parting(near, square), joined_evenly(square, Company(abcd, []))]
# [True, False, (('even',), ('lone',)), (('nearly', 'd'), ('even',)), True]
[fewest_evenly(square), least_evenly(square).friends(), fewest_evenly(near), least_evenly(near).friends(), always_and_never(near)]
# [0, [], 3, [('a', 'b'), ('a', 'c'), ('b', 'c')], ([('a', 'b'), ('a', 'c'), ('b', 'c')], [])]
[is_even_road(none, ab, [("a", "b")]), is_even_road(none, ab, [("a", "b"), ("a", "c"), ("a", "c")]), is_even_road(none, triangle, [("a", "b"), ("a", "c"), ("b", "c")])]
# [True, True, False]
[is_lessening(square, [("a", "b")]), is_lessening(near, [("c", "d")]), even_road(triangle, none)]
# [True, True, None]
[joined_among(none, [ab, triangle, none]), grouped_evenly([ab, triangle, none])]
# [[0, 2], [[0, 2], [1]]]
'''

SECTION_8 = '''
from evenfriends.companies import Company
from evenfriends.odds import fewest_oddly, headed, is_odd_road, is_headed, joined_oddly, least_oddly, odd_marks, odd_parting, odd_road, oddly_bound, parts_of
abc, abcd = ["a", "b", "c"], ["a", "b", "c", "d"]
path, triangle, ab = Company(abc, [("a", "b"), ("b", "c")]), Company(abc, [("a", "b"), ("a", "c"), ("b", "c")]), Company(abc, [("a", "b")])
square, star = Company(abcd, [("a", "b"), ("a", "d"), ("b", "c"), ("c", "d")]), Company(abcd, [("a", "b"), ("a", "c"), ("a", "d")])
[parts_of(ab), odd_marks(ab), odd_marks(path), odd_marks(triangle), odd_marks(square), odd_marks(star)]
# [[['a', 'b'], ['c']], ['lone', 'lone'], ['even'], ['even'], ['lone'], ['odd']]
[joined_oddly(path, triangle), odd_parting(path, ab), odd_parting(square, star), joined_oddly(square, square)]
# [True, ('parts',), (['a', 'b', 'c', 'd'], 'lone', 'odd'), True]
[fewest_oddly(triangle), len(least_oddly(triangle).friends()), fewest_oddly(square), is_headed(path, triangle), headed(square) == square]
# [2, 2, 4, True, True]
[is_odd_road(path, triangle, [("a", "c")]), odd_road(path, ab), oddly_bound(ab), oddly_bound(path)]
# [True, None, ([('a', 'b')], [('a', 'c'), ('b', 'c')]), ([], [])]
'''

SECTION_9 = '''
from evenfriends.companies import Company
from evenfriends.ties import is_moving_road, is_square_road, is_triangle_road, moving_road, tie_joined, tie_mark, triangle_road
abc = ["a", "b", "c"]
none, one, path = Company(abc, []), Company(abc, [("a", "b")]), Company(abc, [("a", "b"), ("b", "c")])
[tie_mark(none, "odd"), tie_mark(one, "odd"), tie_mark(path, "odd"), [tie_mark(company, "even") for company in [none, one, path]]]
# [0, 2, 2, [0, 0, 1]]
[tie_joined(none, one, "even"), tie_joined(one, path, "even"), tie_joined(one, path, "odd"), tie_joined(none, one, "odd")]
# [True, False, True, False]
four = ["a", "b", "c", "d"]
[is_square_road(Company(four, []), four, [("a", "b"), ("c", "d"), ("b", "c"), ("a", "d")]), is_square_road(Company(four, []), four, [("a", "b"), ("b", "c"), ("c", "d"), ("a", "d")])]
# [True, False]
[moving_road(one, ["a", "c"]), is_moving_road(one, ["a", "b"], []), moving_road(none, []), moving_road(one, [])]
# [[('b', 'c')], True, [], None]
[is_triangle_road(one, abc, [("a", "c"), ("a", "b"), ("b", "c")]), is_triangle_road(one, abc, [("a", "c"), ("b", "c"), ("a", "b")]), triangle_road(none, abc)]
# [True, False, None]
'''

SECTION_10 = '''
from evenfriends.anyway import class_by_deeds, class_of, deeds_to_friends, farthest_in_class, fewest_deeds, is_shortest_road, is_why_apart, joined, road_to_friends, shared_class, why_apart
from evenfriends.companies import Company
abc, even, odd, far = ["a", "b", "c"], ((2,), "even"), ((2,), "odd"), ((0, 1), "odd")
none, path = Company(abc, []), Company(abc, [("a", "b"), ("b", "c")])
triangle = Company(abc, [("a", "b"), ("a", "c"), ("b", "c")])
[joined(none, path, even), joined(none, triangle, even), joined(path, triangle, odd), joined(none, path, odd), joined(none, path, far), joined(none, triangle, ((), "even"))]
# [True, False, True, False, True, True]
[why_apart(none, triangle, even), why_apart(none, path, odd), why_apart(none, path, even), is_why_apart(none, triangle, even, "count"), is_why_apart(none, triangle, even, "parts")]
# ['lone', 'lone', None, True, False]
[class_by_deeds(none, even), class_by_deeds(path, even), class_by_deeds(path, odd), len(class_of(path, odd))]
# [[1, 3, 3], [1, 2, 3, 1], [1, 1, 2], 4]
square = Company(["a", "b", "c", "d"], [("a", "b"), ("a", "d"), ("b", "c"), ("c", "d")])
[fewest_deeds(Company(["a", "b", "c", "d"], []), square, even), is_shortest_road(none, path, even, [("b", "c"), ("a", "b")]), deeds_to_friends(path, even, ("a", "c")), road_to_friends(triangle, even, ("a", "b")), deeds_to_friends(none, odd, ("a", "b"))]
# [4, True, 2, [], None]
[[company.friends() for company in farthest_in_class(none, even)], [company.friends() for company in shared_class(path, odd, ((1,), "even"))]]
# [[[('a', 'b'), ('a', 'c')], [('a', 'b'), ('b', 'c')], [('a', 'c'), ('b', 'c')]], [[('a', 'b'), ('a', 'c')], [('a', 'b'), ('a', 'c'), ('b', 'c')], [('a', 'b'), ('b', 'c')], [('a', 'c'), ('b', 'c')]]]
'''

SECTION_11 = '''
from evenfriends.companies import Company
from evenfriends.lones import are_crossing_labels, are_even, are_sharing_labels, crossing_company, is_lone, lone_at, lone_companies, lone_halves, lone_parts, lone_place, sharing_company, some_let, strangers_lone
abc = ["a", "b", "c"]
one, triangle = Company(abc, [("a", "b")]), Company(abc, [("a", "b"), ("a", "c"), ("b", "c")])
square = Company(["a", "b", "c", "d"], [("a", "b"), ("a", "d"), ("b", "c"), ("c", "d")])
odd, even = ((2,), "odd"), ((2,), "even")
[is_lone(one, odd), is_lone(one, even), some_let(one, even), is_lone(triangle, even), is_lone(square, odd)]
# [True, False, ('a', 'b'), True, True]
[half.people() for half in lone_halves(one)], lone_halves(triangle)
# ([['c'], ['a', 'b']], None)
labels = {"a": (1, 0), "b": (0, 1), "c": (1, 0), "d": (0, 1)}
[are_crossing_labels(square, labels), are_even(labels), crossing_company(labels) == square, are_crossing_labels(square, {"a": (1, 0), "b": (0, 1), "c": (1, 0), "d": (1, 1)})]
# [True, True, True, False]
[are_sharing_labels(Company(["a", "b"], [("a", "b")]), {"a": (1,), "b": (1,)}), are_even({"a": (1,), "b": (1,)}), sharing_company({"a": (1, 0), "b": (0, 1)}).friends(), lone_parts(one)]
# [True, True, [], ({'c': ()}, {'a': (1,), 'b': (1,)})]
[lone_parts(triangle), strangers_lone(triangle), strangers_lone(square)]
# [None, {'a': (), 'b': (), 'c': ()}, None]
[len(lone_companies(abc, odd)), [company.friends() for company in lone_companies(abc, even)], lone_at(abc, odd, 0).friends(), lone_place(triangle, odd)]
# [4, [[('a', 'b'), ('a', 'c'), ('b', 'c')]], [], None]
'''

SECTION_12 = '''
from evenfriends.companies import Company
from evenfriends.numbers import class_count, class_sizes, even_by_rank, even_count, even_families, is_wholly_even, is_wholly_odd, joined_tuples, lone_connected, lone_count, odd_count, rank_of, tie_class, tie_sizes, untied_companies
abcd = ["a", "b", "c", "d"]
square = Company(abcd, [("a", "b"), ("a", "d"), ("b", "c"), ("c", "d")])
pairs = Company(abcd, [("a", "b"), ("c", "d")])
even, odd, ties = ((2,), "even"), ((2,), "odd"), ((1,), "odd")
[is_wholly_even(square), is_wholly_odd(pairs), rank_of(square), rank_of(pairs), [untied_companies(size) for size in range(5)]]
# [True, True, 2, 4, [1, 0, 1, 0, 28]]
[even_families(4, 2), even_families(5, 2), even_families(6, 2), even_by_rank(4), even_by_rank(6), [even_count(many) for many in range(1, 10)]]
# [3, 15, 75, {0: 1, 2: 3}, {0: 1, 2: 75}, [1, 1, 1, 4, 16, 76, 316, 5104, 69616]]
[odd_count(4), odd_count(5), [lone_count(odd, many) for many in range(1, 8)], lone_count(even, 5), lone_count(even, 6), lone_count(ties, 4)]
# [4, 0, [1, 2, 4, 14, 46, 272, 1324], 16, 0, 16]
[[lone_connected(many) for many in range(1, 10)], [class_count(even, many) for many in range(1, 8)], [class_count(odd, many) for many in range(1, 7)]]
# [[1, 1, 0, 4, 0, 76, 0, 7204, 30240], [1, 1, 2, 5, 18, 8, 318], [1, 2, 5, 19, 73, 406]]
[class_count(ties, 5), class_sizes(even, 5), class_sizes(ties, 5), joined_tuples(((1,), "even"), 3), tie_class(5, 2), tie_sizes(((1,), "odd"), 5)]
# [66, {1: 16, 400: 1, 608: 1}, {1: 64, 320: 1, 640: 1}, 32, 640, {1: 64, 320: 1, 640: 1}]
'''

SECTION_13 = '''
from evenfriends.companies import Company
from evenfriends.wishes import are_fixed, company_for, fewest_for, fewest_free, fewest_in_class, forced, free_pairs, is_least_free, is_odd_lot, many_met, meets, meets_all, met_with, odd_lot, rest_of, rest_sum, safe_wishes, surplus, wished_company
abc, common, ties = ["a", "b", "c"], ((2,), "even"), ((1,), "even")
some, apart = {("a", "b"): True}, {("a", "b"): False}
[free_pairs(abc, some), rest_sum(abc, some, common), rest_sum(abc, apart, common), are_fixed(abc, some, common), are_fixed(abc, apart, common)]
# [[('a', 'c'), ('b', 'c')], [(('a', 'c'), ('b', 'c'))], [], False, True]
[fewest_free(abc, some, common, 1), fewest_free(abc, some, common, 0), fewest_free(abc, apart, common, 1), fewest_free(abc, {}, common, 1), is_least_free(abc, some, ties, 1, [("b", "c")])]
# [2, 0, None, 3, True]
rest_sum(abc, some, ties)
# [(('a', 'c'),), (('a', 'c'), ('b', 'c')), (('b', 'c'),)]
[met_with(abc, some, [("b", "c")]) == Company(abc, [("a", "b"), ("b", "c")]), rest_of(Company(abc, [("a", "b"), ("b", "c")]), ties), meets(Company(abc, []), apart)]
# [True, 1, True]
five = ["a", "b", "c", "d", "e"]
bow = Company(five, [("a", "b"), ("a", "c"), ("a", "d"), ("a", "e"), ("b", "c"), ("d", "e")])
three = Company(five, [("a", "b"), ("a", "c"), ("b", "c")])
[safe_wishes(5, common), safe_wishes(6, common), safe_wishes(5, ties), surplus(abc, {}), surplus(abc, some), surplus(abc, apart)]
# [3, 5, 7, 0, -2, 2]
[fewest_in_class(bow, {}, common), wished_company(bow, {}, common) == bow, fewest_in_class(bow, {("b", "d"): True}, common), fewest_in_class(three, {}, common), fewest_in_class(three, some, common)]
# [6, True, None, 3, 2]
tight = {("a", "d"): False, ("a", "e"): False, ("b", "c"): True, ("b", "d"): False, ("b", "e"): False, ("c", "d"): False, ("c", "e"): False, ("d", "e"): False}
[forced(three, tight, common), many_met(three, tight, common), forced(Company(five, []), tight, common), many_met(Company(five, []), tight, common)]
# [{('a', 'b'): True, ('a', 'c'): True}, 1, {}, 3]
[fewest_for(abc, {}, {"a": 1, "b": 1}), fewest_for(abc, {}, {"a": 1, "b": 0, "c": 0}), odd_lot(abc, {}, {"a": 1, "b": 0, "c": 0}), is_odd_lot(abc, {("a", "b"): True, ("a", "c"): False}, {"a": 0}, ["a"])]
# [1, None, ['a', 'b', 'c'], True]
[company_for(abc, {}, {"a": 1, "b": 1, "c": 0}) == Company(abc, [("a", "b")]), meets_all(abc, {}, {"a": 0, "b": 0, "c": 0}, common, 1), meets_all(abc, {}, {"a": 1, "b": 1}, common, 1)]
# [True, True, False]
'''

SECTION_14 = '''
from evenfriends.companies import Company
from evenfriends.newcomers import cones_joined, either_joined, either_lets, either_lone, fewest_newcomers, freeing_number, is_either_road, never_free, with_newcomers
people, even, odd, ties = ["a", "b", "c", "d", "e"], ((2,), "even"), ((2,), "odd"), ((1,), "odd")
bow = Company(people, [("a", "b"), ("a", "c"), ("a", "d"), ("a", "e"), ("b", "c"), ("d", "e")])
none = Company(people, [])
all_friends = Company(people, [("a", "b"), ("a", "c"), ("a", "d"), ("a", "e"), ("b", "c"), ("b", "d"), ("b", "e"), ("c", "d"), ("c", "e"), ("d", "e")])
[fewest_newcomers(bow, none, even), fewest_newcomers(all_friends, none, even), fewest_newcomers(bow, none, odd), fewest_newcomers(none, none, odd)]
# [1, 2, None, 0]
[freeing_number(bow), freeing_number(all_friends), freeing_number(none), never_free(bow), never_free(Company(people, [("a", "b")]))]
# [1, 2, 0, True, False]
[with_newcomers(Company(["a", "c"], []), 2).people(), cones_joined(bow, none), cones_joined(none, none)]
# [['a', 'b', 'c', 'd'], False, True]
[either_lone(bow, [((1,), "odd"), ((2,), "even")]), either_lone(none, [((1,), "odd"), ((2,), "odd")]), either_joined(bow, none, [((1,), "even"), ((2,), "even")]), len(either_lets(none, [((1,), "odd"), ((2,), "even")]))]
# [True, True, True, 10]
'''

SECTION_15 = r'''
from evenfriends.clubs import Table, are_joined, fewest_members, is_club_road, is_least_table, is_lone_table, let_places, many_classes, mark, moved, squares_of, squares_through, with_club
two = Table(["a", "b"], ["x", "y"], [("a", "x"), ("a", "y"), ("b", "x")])
full = Table(["a", "b"], ["x", "y"], [("a", "x"), ("a", "y"), ("b", "x"), ("b", "y")])
[squares_of(full), squares_through(two, ("b", "y")), squares_through(two, ("a", "x")), let_places(two), is_lone_table(full), mark(full)]
# [1, 1, 0, [('a', 'x'), ('a', 'y'), ('b', 'x')], True, ('lone', [('a', 'x'), ('a', 'y'), ('b', 'x'), ('b', 'y')])]
none = Table(["a", "b"], ["x", "y"], [])
[mark(two), are_joined(two, none), are_joined(full, none), is_club_road(two, none, [("a", "x"), ("a", "y"), ("b", "x")]), fewest_members(full), many_classes(["a", "b"], ["x", "y"])]
# [('shared', 0), True, False, True, 4, 2]
three = with_club(full, "z")
[mark(three), let_places(three), is_least_table(three, three), moved(three, ("a", "z")).members()[2]]
# [('shared', 1), [('a', 'z'), ('b', 'z')], True, ('a', 'z')]
wide = Table(["a", "b", "c"], ["x", "y", "z"], [("a", "x"), ("a", "y"), ("b", "x"), ("b", "y"), ("c", "z")])
[mark(wide), fewest_members(wide), squares_through(wide, ("c", "x")), many_classes(["a", "b", "c"], ["x", "y", "z"])]
# [('squares', 1), 4, 0, 2]
'''

SECTION_16 = r'''
from evenfriends.companies import Company
from evenfriends.house import House, replayed
abc, even, odd = ["a", "b", "c"], ((2,), "even"), ((2,), "odd")
house = House()
[house.put(Company(abc, [("a", "b")]), even), house.lets(0), house.wish(0, {("a", "c"): True, ("b", "c"): True}), house.is_met(0), house.deed(0, ("a", "b")), house.is_way(0, [("a", "c"), ("b", "c")])]
# [0, [('a', 'b'), ('a', 'c'), ('b', 'c')], None, False, False, True]
[house.deed(0, ("a", "c")), house.deed(0, ("b", "c")), house.is_met(0), house.lets(0), house.way(0), house.company_there(0).friends()]
# [True, True, True, [('a', 'c'), ('b', 'c')], [], [('a', 'c'), ('b', 'c')]]
[house.put(Company(abc, [("a", "b"), ("a", "c"), ("b", "c")]), even), house.lets(1), house.joined_spots(0), house.guest(1, "d"), house.lets(1), house.leave(1, "d"), house.undo()]
# [1, [], [], None, [('a', 'd'), ('b', 'd'), ('c', 'd')], None, None]
[house.company_there(1).people(), house.unwish(0), house.to_manner(0, odd), house.lets(0), house.manners_for(0, Company(abc, [("a", "b"), ("a", "c"), ("b", "c")]))]
# [['a', 'b', 'c', 'd'], None, None, [('a', 'b')], [((1,), 'even'), ((2,), 'odd')]]
[len(house.log()), replayed(House(), house.log()).lets(0), house.spots()]
# [9, [('a', 'b')], [0, 1]]
'''

SECTION_17 = r'''
from evenfriends.companies import Company
from evenfriends.house import House
from evenfriends.scripts import end_of, play, read_script, script_text, shortened
abc, even = ["a", "b", "c"], ((2,), "even")
ab = Company(abc, [("a", "b")])
day = [("put", ab, even), ("lets", 0), ("deed", 0, ("a", "c")), ("deed", 0, ("b", "c")), ("try", [("deed", 0, ("a", "c")), ("deed", 0, ("a", "b"))]), ("met", 0)]
play(House(), day)
# [('put', 0), ('lets', [('a', 'b'), ('a', 'c'), ('b', 'c')]), ('deed', True), ('refused', 'Refused'), ('tried', [('deed', False), ('deed', False)]), ('met', True)]
[end_of(day) == {0: (Company(abc, [("a", "b"), ("a", "c")]), even, None)}, read_script(script_text(day)) == day]
# [True, True]
script_text([("deed", 0, ("a", "b")), ("wish", 0, {("a", "b"): True}), ("put", Company(["a"], []), ((0, 2), "odd")), ("try", [])])
# 'deed 0 a b\nwish 0\n  a b friends\nend\nput 0 2 odd\n  a\nend\ntry\nend'
shortened([("put", ab, even), ("lets", 0), ("undo",), ("redo",)]) == [("put", ab, even), ("redo",)]
# True
'''

SECTION_18 = r'''
from evenfriends.companies import Company
from evenfriends.papers import change_text, companies_text, company_text, read_change, read_companies, read_company, read_road, read_wishes, road_text, wishes_text
square, one = Company(["a", "b", "c", "d"], [("a", "b"), ("a", "d"), ("b", "c"), ("c", "d")]), Company(["z"], [])
company_text(square)
# 'a b c d\na b\na d\nb c\nc d'
[read_company("z") == one, companies_text([one, one]), read_companies("") , change_text(("part", ("a", "b"))), read_change("come e")]
# [True, 'z\n\nz', [], 'part a b', ('come', 'e')]
[road_text([("b", "c"), ("a", "b"), ("b", "c")]), read_road("a b"), wishes_text({("b", "c"): False, ("a", "b"): True}), read_wishes("a b strangers")]
# ['b c\na b\nb c', [('a', 'b')], 'a b friends\nb c strangers', {('a', 'b'): False}]
'''

BLOCKS = [
    ("3", SECTION_3, 4), ("4", SECTION_4, 4),
    ("5", SECTION_5, 7),
    ("6", SECTION_6, 5),
    ("7", SECTION_7, 6),
    ("8", SECTION_8, 4),
    ("9", SECTION_9, 5),
    ("10", SECTION_10, 5),
    ("11", SECTION_11, 6),
    ("12", SECTION_12, 5),
    ("13", SECTION_13, 9),
    ("14", SECTION_14, 4),
    ("15", SECTION_15, 4),
    ("16", SECTION_16, 5),
    ("17", SECTION_17, 4),
    ("18", SECTION_18, 3),
]


def answers(block):
    """Carry a block out; return the list of tuples of an expression, what it gives, and what stands below it."""
    names, found, ahead = {}, [], None
    for line in block.strip().split("\n"):
        if line.startswith("# "):
            found.append((ahead, eval(ahead, names), eval(line[2:], {})))
            ahead = None
        else:
            if ahead is not None:
                exec(ahead, names)
            ahead = line
    return found


class Examples(unittest.TestCase):
    def test_all_blocks(self):
        for section, block, many in BLOCKS:
            found = answers(block)
            self.assertEqual(len(found), many, section)
            for line, told, expected in found:
                self.assertEqual(support.frozen(told), support.frozen(expected), line)


if __name__ == "__main__":
    unittest.main()
