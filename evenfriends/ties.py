"""Deeds under the tie manners, which count the third people who are friends of just one of two."""

from itertools import permutations

from evenfriends.companies import are_people_of, check_company, check_two, pair_of
from evenfriends.errors import InvalidManner, InvalidPeople
from evenfriends.forms import is_ascending
from evenfriends.manners import WORDS
from evenfriends.roads import are_let, end_of_road, is_road_at, pairs_differing
from evenfriends.rows import road_of, rows_of
from evenfriends.tieroads import are_tie_joined, moving_deeds, odd_places, round_deeds, tie_even_deeds, tie_mark_of
from evenfriends.tieroads import tie_odd_deeds, triangle_deeds_of

TIES_EVEN = ((1,), "even")
TIES_ODD = ((1,), "odd")


def check_word(word):
    """Raise InvalidManner unless any object is a word of a manner."""
    if word not in WORDS:
        raise InvalidManner(word)


def tie_mark(company, word):
    """Return the mark of a company under a tie manner: its number of odd people, or a parity."""
    check_company(company)
    check_word(word)
    return tie_mark_of(rows_of(company), word)


def tie_joined(one, other, word):
    """Return whether two companies are joined under a tie manner."""
    check_two(one, other)
    check_word(word)
    return are_tie_joined(rows_of(one), rows_of(other), word)


def tie_road(one, other, word):
    """Return a road that leads from a company to another one, None if they are not joined."""
    check_two(one, other)
    check_word(word)
    start, goal = rows_of(one), rows_of(other)
    if not are_tie_joined(start, goal, word):
        return None
    deeds = tie_odd_deeds(start, goal) if word == "odd" else tie_even_deeds(start, goal)
    return road_of(one.people(), deeds)


def are_ascending_people_of(company, value):
    """Tell whether any object is an ascending list of people of a company, perhaps empty."""
    return value == [] or (are_people_of(company.people(), value) and is_ascending(value))


def check_four(company, four):
    """Raise InvalidPeople unless any object is a list of four unlike people of a company."""
    if not are_people_of(company.people(), four) or len(four) != 4:
        raise InvalidPeople(four)


def check_three(company, three):
    """Raise InvalidPeople unless any object is an ascending list of three people of a company."""
    if not are_ascending_people_of(company, three) or len(three) != 3:
        raise InvalidPeople(three)


def check_ascending(company, people):
    """Raise InvalidPeople unless any object is an ascending list of people of a company, perhaps empty."""
    if not are_ascending_people_of(company, people):
        raise InvalidPeople(people)


def places_among(company, people):
    """Return the list of the places of some people of a company."""
    known = company.people()
    return [known.index(person) for person in people]


def round_of(four):
    """Return the list of the four pairs of next ones in a round of four."""
    return [(four[at], four[(at + 1) % 4]) for at in range(4)]


def shortest_round(company, four):
    """Return a road with as few deeds as can be that changes just the friendships of a round."""
    people = company.people()
    rows = rows_of(company)
    places = places_among(company, four)
    pairs = round_of(places)
    for deeds in permutations(pairs):
        if are_let(rows, TIES_EVEN, deeds):
            return road_of(people, deeds)
    # Of each two next ones just one is an odd one: so those across are alike, and behind their deed nobody is unlike.
    across = (places[0], places[2])
    return road_of(people, [across] + round_deeds(places) + [across])


def changes_just(company, manner, pairs, value):
    """Tell whether any object is a road under a manner that changes just the friendships of some unlike pairs."""
    if not is_road_at(company, manner, value):
        return False
    return pairs_differing(company, end_of_road(company, value)) == sorted(pairs)


def square_road(company, four):
    """Return a road under ties even, with as few deeds as can be, that changes just the friendships of a round."""
    check_company(company)
    check_four(company, four)
    return shortest_round(company, four)


def is_square_road(company, four, value):
    """Return whether any object is a road under ties even, as short, that changes just those of a round."""
    check_company(company)
    check_four(company, four)
    pairs = [pair_of(one, other) for one, other in round_of(four)]
    return changes_just(company, TIES_EVEN, pairs, value) and len(value) == len(shortest_round(company, four))


def shortest_move(company, people):
    """Return a road with as few deeds as can be to a company whose odd people are some people, None if none leads."""
    rows = rows_of(company)
    places = places_among(company, people)
    if len(odd_places(rows)) != len(places):
        return None
    return road_of(company.people(), moving_deeds(rows, places))


def moving_road(company, people):
    """Return a road under ties odd, as short as can be, to odd people who are just those of a list, or None."""
    check_company(company)
    check_ascending(company, people)
    return shortest_move(company, people)


def is_moving_road(company, people, value):
    """Return whether any object is a road under ties odd, as short, to odd people who are just those of a list."""
    check_company(company)
    check_ascending(company, people)
    if not is_road_at(company, TIES_ODD, value):
        return False
    behind = odd_places(rows_of(end_of_road(company, value)))
    # As there is such a road, there is a shortest one.
    return behind == places_among(company, people) and len(value) == len(shortest_move(company, people))


def shortest_triangle(company, three):
    """Return a road with as few deeds as can be that changes just the friendships among three people, or None."""
    deeds = triangle_deeds_of(rows_of(company), places_among(company, three))
    return None if deeds is None else road_of(company.people(), deeds)


def triangle_road(company, three):
    """Return a road under ties odd, as short as can be, that changes just the friendships among three, or None."""
    check_company(company)
    check_three(company, three)
    return shortest_triangle(company, three)


def is_triangle_road(company, three, value):
    """Return whether any object is a road under ties odd, as short, that changes just those among three people."""
    check_company(company)
    check_three(company, three)
    first, second, third = three
    pairs = [(first, second), (first, third), (second, third)]
    return changes_just(company, TIES_ODD, pairs, value) and len(value) == len(shortest_triangle(company, three))
