"""Deeds under any manner: which companies are joined, what parts them, and the fewest deeds."""

from evenfriends.companies import Company, check_company, check_pair_of, check_two, kept_among, opposite
from evenfriends.evenroads import EVEN
from evenfriends.evens import are_joined_evenly, even_road, odd_one
from evenfriends.manners import check_manner, pairs_let, parity_of, real_manner
from evenfriends.oddroads import ODD
from evenfriends.odds import are_joined_oddly, mark_of_part, odd_road, parts_in
from evenfriends.roads import does_lead, end_of_road, is_road_at, pairs_differing
from evenfriends.rows import deeds_of, friends_in, road_of, rows_of
from evenfriends.searches import explored, shortest_deeds, shortest_to_wishes
from evenfriends.ties import TIES_ODD, tie_joined, tie_road
from evenfriends.triples import odd_people

REASONS = ("lone", "complete", "parts", "lone part", "odd people", "count")

# The counts of point [59]; under ((), "even") all companies are joined, and none is asked.
COUNTS = {
    ((2,), "even"): ((3,), False),
    ((1,), "even"): ((2, 3), False),
    ((1,), "odd"): ((2, 3), True),
    ((), "odd"): ((), True),
    ((2,), "odd"): ((3,), True),
}


def really(one, other, manner):
    """Return two companies, or their opposites, and the real manner that lets there what a manner lets."""
    real, is_opposite = real_manner(manner, len(one.people()))
    if is_opposite:
        return opposite(one), opposite(other), real
    return one, other, real


def are_joined(one, other, manner):
    """Tell whether two companies of the same people are joined under any manner."""
    first, second, (kinds, word) = really(one, other, manner)
    if kinds == ():
        return word == "even" or first == second
    if kinds == (1,):
        return tie_joined(first, second, word)
    return are_joined_evenly(first, second) if word == "even" else are_joined_oddly(first, second)


def joined(one, other, manner):
    """Return whether two companies are joined under any manner."""
    check_two(one, other)
    check_manner(manner)
    return are_joined(one, other, manner)


def road_between(one, other, manner):
    """Return a road that leads from a company to another one under any manner, None if there is none."""
    check_two(one, other)
    check_manner(manner)
    if not are_joined(one, other, manner):
        return None
    if len(one.people()) < 3 or one == other:
        return pairs_differing(one, other)
    # Deeds change the opposites as they change the companies.
    first, second, (kinds, word) = really(one, other, manner)
    if kinds == ():
        return pairs_differing(first, second)
    if kinds == (1,):
        return tie_road(first, second, word)
    return even_road(first, second) if word == "even" else odd_road(first, second)


def shared_parts(one, other):
    """Return the list of the parts that two companies both have."""
    others = parts_in(other)
    return [part for part in parts_in(one) if part in others]


def has_lone_change(one, other, part):
    """Tell whether a part of both is lone in one of both and has other friends in the other one."""
    if kept_among(one, part) == kept_among(other, part):
        return False
    return "lone" in (mark_of_part(one, part), mark_of_part(other, part))


def is_count_unlike(one, other, real):
    """Tell whether the count of a real manner is unlike for two companies by parity, or so in a part of both."""
    tally = COUNTS[real]
    if real != ODD:
        return parity_of(one, tally) != parity_of(other, tally)
    cuts = [(kept_among(one, part), kept_among(other, part)) for part in shared_parts(one, other)]
    return any([parity_of(first, tally) != parity_of(second, tally) for first, second in cuts])


def does_hold(one, other, real, reason):
    """Tell whether what a word tells of two companies under a real manner holds."""
    if reason == "lone":
        return pairs_let(one, real) == [] or pairs_let(other, real) == []
    if reason == "complete":
        return real == EVEN and (odd_one(one) is not None or odd_one(other) is not None)
    if reason == "parts":
        return real == ODD and parts_in(one) != parts_in(other)
    if reason == "lone part":
        return real == ODD and any([has_lone_change(one, other, part) for part in shared_parts(one, other)])
    if reason == "odd people":
        return real == TIES_ODD and len(odd_people(one)) != len(odd_people(other))
    return is_count_unlike(one, other, real)


def why_apart(one, other, manner):
    """Return the first word that tells why two companies are not joined, None if they are."""
    check_two(one, other)
    check_manner(manner)
    if are_joined(one, other, manner):
        return None
    first, second, real = really(one, other, manner)
    for reason in REASONS[:-1]:
        if does_hold(first, second, real, reason):
            return reason
    return "count"


def is_why_apart(one, other, manner, value):
    """Return whether any object is a word that tells why two companies are not joined, and rightly."""
    check_two(one, other)
    check_manner(manner)
    if value not in REASONS or are_joined(one, other, manner):
        return False
    first, second, real = really(one, other, manner)
    return does_hold(first, second, real, value)


def found_from(company, manner):
    """Return what a search tells of all companies joined with one."""
    return explored(rows_of(company), manner)


def deeds_between(one, other, manner):
    """Return the fewest deeds that lead from a company to another one, None if none do."""
    return shortest_deeds(rows_of(one), rows_of(other), manner)


def fewest_deeds(one, other, manner):
    """Return the least number of deeds of a road from a company to another one, None if there is none."""
    check_two(one, other)
    check_manner(manner)
    deeds = deeds_between(one, other, manner)
    return None if deeds is None else len(deeds)


def shortest_road(one, other, manner):
    """Return a road of so few deeds, None if there is none."""
    check_two(one, other)
    check_manner(manner)
    deeds = deeds_between(one, other, manner)
    return None if deeds is None else road_of(one.people(), deeds)


def is_shortest_road(one, other, manner, value):
    """Return whether any object is a road of so few deeds from a company to another one."""
    check_two(one, other)
    check_manner(manner)
    if not does_lead(one, other, manner, value):
        return False
    return len(value) == len(deeds_between(one, other, manner))


def companies_of(people, states):
    """Return the list of the companies of some people with states, ascending by their lists of friends."""
    return [Company(people, friends) for friends in sorted([friends_in(people, state) for state in states])]


def class_of(company, manner):
    """Return the ascending list of all companies joined with one."""
    check_company(company)
    check_manner(manner)
    return companies_of(company.people(), list(found_from(company, manner)))


def numbers_away(found):
    """Return the list of how many deeds away the states that were explored are, ascending."""
    return [far for far, _, _ in found.values()]


def class_by_deeds(company, manner):
    """Return the list whose entry at d tells how many companies are just d deeds away."""
    check_company(company)
    check_manner(manner)
    away = numbers_away(found_from(company, manner))
    return [away.count(far) for far in range(max(away) + 1)]


def deeds_to_pair(company, manner, pair):
    """Return the fewest deeds that lead to a company in which a pair are friends, None if none do."""
    deeds = deeds_of(company.people(), [pair])
    return shortest_to_wishes(rows_of(company), [(deeds[0], True)], manner)


def deeds_to_friends(company, manner, pair):
    """Return the fewest deeds that lead to a company in which a pair are friends, None if none do."""
    check_company(company)
    check_manner(manner)
    check_pair_of(company, pair)
    deeds = deeds_to_pair(company, manner, pair)
    return None if deeds is None else len(deeds)


def road_to_friends(company, manner, pair):
    """Return a road of so few deeds, None if there is none."""
    check_company(company)
    check_manner(manner)
    check_pair_of(company, pair)
    deeds = deeds_to_pair(company, manner, pair)
    return None if deeds is None else road_of(company.people(), deeds)


def is_road_to_friends(company, manner, pair, value):
    """Return whether any object is a road of so few deeds to a company in which a pair are friends."""
    check_company(company)
    check_manner(manner)
    check_pair_of(company, pair)
    if not is_road_at(company, manner, value) or pair not in end_of_road(company, value).friends():
        return False
    return len(value) == len(deeds_to_pair(company, manner, pair))


def farthest_in_class(company, manner):
    """Return the ascending list of the companies of its class that are the most deeds away."""
    check_company(company)
    check_manner(manner)
    found = found_from(company, manner)
    most = max(numbers_away(found))
    return companies_of(company.people(), [state for state in found if found[state][0] == most])


def shared_class(company, manner, newer):
    """Return the ascending list of the companies that are joined with one under each of two manners."""
    check_company(company)
    check_manner(manner)
    check_manner(newer)
    found, others = found_from(company, manner), found_from(company, newer)
    return companies_of(company.people(), [state for state in found if state in others])
