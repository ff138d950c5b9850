"""Deeds on pairs with an even number of common friends: which companies are joined, and by which roads."""

from evenfriends.companies import Company, check_company, check_two, is_company_like, strangers
from evenfriends.errors import InvalidCompanies
from evenfriends.evenroads import EVEN, even_deeds, even_mark_of, odd_place
from evenfriends.lessenings import lessening_deeds
from evenfriends.roads import does_lead, end_of_road, is_road_at
from evenfriends.rows import road_of, rows_of


def odd_one(company):
    """Return the odd one of a nearly complete company, None if it is not nearly complete."""
    check_company(company)
    odd = odd_place(rows_of(company))
    return None if odd is None else company.people()[odd]


def mark_of(company):
    """Return the even mark of a company."""
    mark = even_mark_of(rows_of(company))
    if mark[0] == "nearly":
        return ("nearly", company.people()[mark[1]])
    return mark


def are_joined_evenly(one, other):
    """Tell whether two companies of the same people are joined."""
    if one == other:
        return True
    mark = mark_of(one)
    return mark != ("lone",) and mark == mark_of(other)


def even_mark(company):
    """Return the even mark of a company."""
    check_company(company)
    return mark_of(company)


def joined_evenly(one, other):
    """Return whether two companies are joined."""
    check_two(one, other)
    return are_joined_evenly(one, other)


def even_parting(one, other):
    """Return the even marks of two companies that are not joined, None if they are."""
    check_two(one, other)
    return None if are_joined_evenly(one, other) else (mark_of(one), mark_of(other))


def friends_without(company, person):
    """Return the ascending list of the friendships in which a person is not."""
    return [pair for pair in company.friends() if person not in pair]


def least_in_class(company):
    """Return a company with the fewest friendships of those that are joined with a company."""
    mark = mark_of(company)
    people = company.people()
    if mark == ("lone",):
        return company
    if mark == ("even",):
        return Company(people, [])
    if mark == ("odd",):
        first, second, third = people[:3]
        return Company(people, [(first, second), (first, third), (second, third)])
    return Company(people, friends_without(company, mark[1]))


def fewest_evenly(company):
    """Return the least number of friendships that a company joined with it has."""
    check_company(company)
    return len(least_in_class(company).friends())


def least_evenly(company):
    """Return a company with so few friendships that is joined with it."""
    check_company(company)
    return least_in_class(company)


def is_least_evenly(company, value):
    """Return whether any object is a company with so few friendships that is joined with it."""
    check_company(company)
    if not is_company_like(company, value) or not are_joined_evenly(company, value):
        return False
    return len(value.friends()) == len(least_in_class(company).friends())


def always_and_never(company):
    """Return the pairs that are friends in every company joined with it, and those that are in none."""
    check_company(company)
    mark = mark_of(company)
    if mark == ("lone",):
        return company.friends(), strangers(company)
    if mark[0] == "nearly":
        return friends_without(company, mark[1]), []
    return [], []


def lessening(company):
    """Return a road of at most 9 deeds to a company with fewer friendships, None if there is none."""
    check_company(company)
    deeds = lessening_deeds(rows_of(company))
    return None if len(deeds) == 0 else road_of(company.people(), deeds)


def is_lessening(company, value):
    """Return whether any object is a road to a company with fewer friendships."""
    check_company(company)
    if not is_road_at(company, EVEN, value):
        return False
    return len(end_of_road(company, value).friends()) < len(company.friends())


def even_road(one, other):
    """Return a road that leads from a company to another one, None if they are not joined."""
    check_two(one, other)
    if not are_joined_evenly(one, other):
        return None
    return road_of(one.people(), even_deeds(rows_of(one), rows_of(other)))


def is_even_road(one, other, value):
    """Return whether any object is a road that leads from a company to another one."""
    check_two(one, other)
    return does_lead(one, other, EVEN, value)


def are_companies_like(company, value):
    """Tell whether any object is a list of companies of the people of a company."""
    return isinstance(value, list) and all([is_company_like(company, other) for other in value])


def joined_among(company, others):
    """Return the ascending list of the positions of the companies that are joined with a company."""
    check_company(company)
    if not are_companies_like(company, others):
        raise InvalidCompanies(others)
    return [at for at, other in enumerate(others) if are_joined_evenly(company, other)]


def are_companies(value):
    """Tell whether any object is a list, not empty, of companies of the same people as one another."""
    if not isinstance(value, list) or len(value) == 0 or not isinstance(value[0], Company):
        return False
    return are_companies_like(value[0], value)


def grouped_evenly(companies):
    """Return the ascending list of the lists of positions of companies that are joined with one another."""
    if not are_companies(companies):
        raise InvalidCompanies(companies)
    groups = []
    for at, company in enumerate(companies):
        # A group's first position tells for all of it, as being joined goes on from one to the next.
        known = [group for group in groups if are_joined_evenly(companies[group[0]], company)]
        if len(known) > 0:
            known[0].append(at)
        else:
            groups.append([at])
    return groups
