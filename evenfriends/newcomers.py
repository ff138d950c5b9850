"""Newcomers who come into a company, cones of companies, and deeds that either of two manners lets."""

from evenfriends.anyway import are_joined
from evenfriends.companies import Company, all_pairs, check_company, check_person_of, check_two, circles, cone
from evenfriends.eithers import are_manners, let_either, lone_under_both, shortest_either, single_manner
from evenfriends.errors import InvalidManner, InvalidManners
from evenfriends.evenroads import EVEN, even_mark_of, triangle_parity
from evenfriends.forms import word_at
from evenfriends.manners import check_many, is_manner
from evenfriends.oddroads import ODD
from evenfriends.odds import are_joined_oddly
from evenfriends.roads import check_size, is_list_of_pairs
from evenfriends.rows import deeds_of, road_of, rows_behind, rows_of
from evenfriends.tieroads import odd_places
from evenfriends.ties import TIES_EVEN, TIES_ODD

# From so many people on few have not classes of their own.
MANY = 5


def new_words(known, number):
    """Return the list of the first so many words of a, b, .. that are not among known ones."""
    words = [word_at(at) for at in range(len(known) + number)]
    return [word for word in words if word not in known][:number]


def with_newcomers(company, number):
    """Return the company with so many newcomers, who are friends of nobody."""
    check_company(company)
    check_size(number)
    people = company.people()
    return Company(people + new_words(people, number), company.friends())


def is_all_friends(company):
    """Tell whether all people of a company are friends of one another."""
    return company.friends() == all_pairs(company.people())


def needed_for_odd_ties(one, other):
    """Return how many newcomers make two companies joined under ties odd that are not, None if none ever do."""
    odd = len(odd_places(rows_of(one)))
    return 1 if odd > 0 and odd == len(odd_places(rows_of(other))) else None


def needed_for_even(one, other):
    """Return how many newcomers make two companies joined under common friends even that are not, or None."""
    if triangle_parity(rows_of(one)) != triangle_parity(rows_of(other)):
        return None
    is_odd_number = len(one.people()) % 2 == 1
    return 2 if is_odd_number and (is_all_friends(one) or is_all_friends(other)) else 1


def fewest_newcomers(one, other, manner):
    """Return the least number of newcomers with which two companies are joined, None if they never are."""
    check_two(one, other)
    if not is_manner(manner) or manner not in (EVEN, ODD, TIES_EVEN, TIES_ODD):
        raise InvalidManner(manner)
    if are_joined(one, other, manner):
        return 0
    if manner == EVEN:
        return needed_for_even(one, other)
    return needed_for_odd_ties(one, other) if manner == TIES_ODD else None


def freeing_number(company):
    """Return the least number of newcomers with which all like it by triangles can be reached from a company."""
    check_company(company)
    many = len(company.people())
    if many < MANY:
        return MANY - many
    if even_mark_of(rows_of(company))[0] in ("even", "odd"):
        return 0
    return 2 if many % 2 == 1 and is_all_friends(company) else 1


def never_free(company):
    """Return whether a company is lone under ties odd with however many newcomers."""
    check_company(company)
    return not any([len(circle) % 2 == 1 for circle in circles(company).values()])


def cones_joined(one, other):
    """Return whether the cones of two companies, with the same new person, are joined under common friends odd."""
    check_two(one, other)
    person = new_words(one.people(), 1)[0]
    return are_joined_oddly(cone(one, person), cone(other, person))


def is_cone_of(company, person, value):
    """Return whether any object is a company whose cone with a person is the company."""
    check_company(company)
    check_person_of(company, person)
    if not isinstance(value, Company) or person in value.people():
        return False
    return cone(value, person) == company


def check_manners(manners):
    """Raise InvalidManners unless any object is an ascending list of two unlike manners."""
    if not are_manners(manners):
        raise InvalidManners(manners)


def either_lets(company, manners):
    """Return the ascending list of the pairs that are let under one of two manners."""
    check_company(company)
    check_manners(manners)
    return road_of(company.people(), let_either(rows_of(company), manners))


def is_lone_either(company, manners):
    """Tell whether no pair is let under one of two manners."""
    return let_either(rows_of(company), manners) == []


def either_lone(company, manners):
    """Return whether no pair is let under one of two manners."""
    check_company(company)
    check_manners(manners)
    return is_lone_either(company, manners)


def fewest_either(one, other, manners):
    """Return the fewest deeds under either manner that lead from a company to another one, None if none do."""
    return shortest_either(rows_of(one), rows_of(other), manners)


def either_joined(one, other, manners):
    """Return whether deeds that are let under one of two manners lead from a company to another one."""
    check_two(one, other)
    check_manners(manners)
    many = len(one.people())
    if many < 4:
        return fewest_either(one, other, manners) is not None
    single = single_manner(manners, many)
    if single is not None:
        return are_joined(one, other, single)
    return one == other or not (is_lone_either(one, manners) or is_lone_either(other, manners))


def either_road(one, other, manners):
    """Return as few deeds as can be, each let under one of two manners, from one to the other, None if none lead."""
    check_two(one, other)
    check_manners(manners)
    deeds = fewest_either(one, other, manners)
    return None if deeds is None else road_of(one.people(), deeds)


def leads_either(rows, goal, manners, deeds):
    """Tell whether deeds, each let under one of some manners, lead from rows to other rows."""
    for at, deed in enumerate(deeds):
        if deed not in let_either(rows_behind(rows, deeds[:at]), manners):
            return False
    return rows_behind(rows, deeds) == goal


def is_either_road(one, other, manners, value):
    """Return whether any object is a list of as few such deeds that leads from a company to another one."""
    check_two(one, other)
    check_manners(manners)
    people = one.people()
    if not is_list_of_pairs(people, value):
        return False
    if not leads_either(rows_of(one), rows_of(other), manners, deeds_of(people, value)):
        return False
    return len(value) == len(fewest_either(one, other, manners))


def either_lone_number(number, manners):
    """Return how many companies of so many people are lone under both of two manners."""
    check_many(number)
    check_manners(manners)
    return lone_under_both(number, manners)
