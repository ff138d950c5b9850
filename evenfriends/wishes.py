"""Wishes that some pairs be friends and some strangers: whether, where and with how little they can be met."""

from evenfriends.anyway import are_joined
from evenfriends.balances import company_balanced, company_balanced_with_rest, does_balance, is_odd_among, odd_part
from evenfriends.companies import Company, are_pairs_of, check_company, is_company_like
from evenfriends.errors import InvalidCount, InvalidPairs
from evenfriends.evenroads import EVEN
from evenfriends.forms import is_ascending, is_count
from evenfriends.inclass import all_in_class, fewest_free_in_class
from evenfriends.lones import check_people
from evenfriends.rests import check_even_manner, rest_by_wishes, rest_of_company
from evenfriends.rows import bits_of, members
from evenfriends.sums import least_bits, surplus_of
from evenfriends.ties import TIES_EVEN
from evenfriends.triples import check_among
from evenfriends.wishforms import are_wishes_for, check_parities, check_wishes, company_with, does_meet, free_among
from evenfriends.wishforms import free_friends

PARITIES = (0, 1)


def check_people_and_wishes(people, wishes):
    """Raise an error unless these are people and wishes for them."""
    check_people(people)
    check_wishes(people, wishes)


def are_wishes(people, value):
    """Return whether any object is wishes for people."""
    check_people(people)
    return are_wishes_for(people, value)


def meets(company, wishes):
    """Return whether a company meets wishes for its people."""
    check_company(company)
    check_wishes(company.people(), wishes)
    return does_meet(company, wishes)


def free_pairs(people, wishes):
    """Return the ascending list of the free pairs."""
    check_people_and_wishes(people, wishes)
    return free_among(people, wishes)


def are_free_pairs(people, wishes, value):
    """Tell whether any object is a list of unlike free pairs, in any order."""
    return are_pairs_of(people, value) and not any([pair in wishes for pair in value])


def met_with(people, wishes, pairs):
    """Return the company that meets wishes and in which, of the free pairs, just those of a list are friends."""
    check_people_and_wishes(people, wishes)
    if not are_free_pairs(people, wishes, pairs):
        raise InvalidPairs(pairs)
    return company_with(people, wishes, pairs)


def rest_of(company, manner):
    """Return the rest of a company under an even manner: 0 for an even number of triangles, or forks, otherwise 1."""
    check_company(company)
    check_even_manner(manner)
    return rest_of_company(company, manner)


def rest_sum(people, wishes, manner):
    """Return the ascending list of the lots of free pairs whose number within the friends tells the rest."""
    check_people_and_wishes(people, wishes)
    check_even_manner(manner)
    free = free_among(people, wishes)
    return sorted([tuple([free[at] for at in members(lot)]) for lot in rest_by_wishes(people, wishes, manner)])


def are_fixed(people, wishes, manner):
    """Return whether all companies that meet wishes have the same rest."""
    check_people_and_wishes(people, wishes)
    check_even_manner(manner)
    return not any([lot != 0 for lot in rest_by_wishes(people, wishes, manner)])


def safe_wishes(many, manner):
    """Return the greatest number of pairs such that no wishes for so many pairs of so many people are fixed."""
    if not is_count(many) or many < 5:
        raise InvalidCount(many)
    check_even_manner(manner)
    if manner == EVEN:
        return (many - 1) * (many - 1) // 4 - 1
    return many * (many - 1) // 2 - many // 2 - 1


def check_rest(people, wishes, manner, parity):
    """Raise an error unless these are people, wishes for them, an even manner, and 0 or 1."""
    check_people_and_wishes(people, wishes)
    check_even_manner(manner)
    check_among(parity, PARITIES)


def fewest_with_rest(people, wishes, manner, parity):
    """Return as few free pairs as can be with which the rest is a parity, None if there are none."""
    bits = least_bits(rest_by_wishes(people, wishes, manner), parity)
    if bits is None:
        return None
    free = free_among(people, wishes)
    return [free[at] for at in members(bits)]


def fewest_free(people, wishes, manner, parity):
    """Return the least number of free friends in a company that meets wishes and has a rest, None if there is none."""
    check_rest(people, wishes, manner, parity)
    pairs = fewest_with_rest(people, wishes, manner, parity)
    return None if pairs is None else len(pairs)


def least_free(people, wishes, manner, parity):
    """Return an ascending list of so few free pairs with which the rest is so, None if there is none."""
    check_rest(people, wishes, manner, parity)
    return fewest_with_rest(people, wishes, manner, parity)


def is_least_free(people, wishes, manner, parity, value):
    """Return whether any object is an ascending list of so few free pairs with which the rest is so."""
    check_rest(people, wishes, manner, parity)
    if not are_free_pairs(people, wishes, value) or not is_ascending(value):
        return False
    if rest_of_company(company_with(people, wishes, value), manner) != parity:
        return False
    return len(value) == len(fewest_with_rest(people, wishes, manner, parity))


def check_class(company, wishes, manner):
    """Raise an error unless these are a company, wishes for its people, and an even manner."""
    check_company(company)
    check_wishes(company.people(), wishes)
    check_even_manner(manner)


def fewest_in_class(company, wishes, manner):
    """Return the least number of free friends in a company of a class that meets wishes, None if there is none."""
    check_class(company, wishes, manner)
    found = fewest_free_in_class(company, wishes, manner)
    return None if found is None else len(free_friends(found, wishes))


def wished_company(company, wishes, manner):
    """Return a company of a class that meets wishes with so few free friends, None if there is none."""
    check_class(company, wishes, manner)
    return fewest_free_in_class(company, wishes, manner)


def is_wished_company(company, wishes, manner, value):
    """Return whether any object is a company of a class that meets wishes with so few free friends."""
    check_class(company, wishes, manner)
    if not is_company_like(company, value) or not does_meet(value, wishes):
        return False
    if not are_joined(company, value, manner):
        return False
    fewest = fewest_free_in_class(company, wishes, manner)
    return len(free_friends(value, wishes)) == len(free_friends(fewest, wishes))


def forced(company, wishes, manner):
    """Return which free pairs are friends, or strangers, in every company of a class that meets wishes, or None."""
    check_class(company, wishes, manner)
    lots = [other.friends() for other in all_in_class(company, wishes, manner)]
    if len(lots) == 0:
        return None
    free = free_among(company.people(), wishes)
    numbers = {pair: len([friends for friends in lots if pair in friends]) for pair in free}
    return {pair: number > 0 for pair, number in numbers.items() if number in (0, len(lots))}


def many_met(company, wishes, manner):
    """Return how many companies of a class meet wishes."""
    check_class(company, wishes, manner)
    return len(all_in_class(company, wishes, manner))


def met_at(company, wishes, manner, number):
    """Return the company of a class that meets wishes at a position, ascending by the lists of friends."""
    check_class(company, wishes, manner)
    lots = all_in_class(company, wishes, manner)
    if not is_count(number) or number >= len(lots):
        raise InvalidCount(number)
    return lots[number]


def surplus(people, wishes):
    """Return how many more companies that meet wishes have the rest 0 than the rest 1 under ties even."""
    check_people_and_wishes(people, wishes)
    return surplus_of(rest_by_wishes(people, wishes, TIES_EVEN), len(free_among(people, wishes)))


def check_balance(people, wishes, parities):
    """Raise an error unless these are people, wishes for them, and parities for some of them."""
    check_people_and_wishes(people, wishes)
    check_parities(people, parities)


def fewest_for(people, wishes, parities):
    """Return the least number of free friends in a company that meets wishes and parities, None if there is none."""
    check_balance(people, wishes, parities)
    found = company_balanced(sorted(people), wishes, parities)
    return None if found is None else len(free_friends(found, wishes))


def company_for(people, wishes, parities):
    """Return a company that meets wishes and parities with so few free friends, None if there is none."""
    check_balance(people, wishes, parities)
    return company_balanced(sorted(people), wishes, parities)


def does_meet_both(people, wishes, parities, value):
    """Tell whether any object is a company of people that meets wishes and parities."""
    if not isinstance(value, Company) or value.people() != sorted(people):
        return False
    return does_meet(value, wishes) and does_balance(value, parities)


def is_company_for(people, wishes, parities, value):
    """Return whether any object is a company that meets wishes and parities with so few free friends."""
    check_balance(people, wishes, parities)
    if not does_meet_both(people, wishes, parities, value):
        return False
    fewest = company_balanced(sorted(people), wishes, parities)
    return len(free_friends(value, wishes)) == len(free_friends(fewest, wishes))


def odd_lot(people, wishes, parities):
    """Return a list of people, left by no free pair, who cannot all have their parities, None if there is none."""
    check_balance(people, wishes, parities)
    ordered = sorted(people)
    bits = odd_part(ordered, wishes, parities)
    return None if bits is None else [ordered[at] for at in members(bits)]


def is_odd_lot(people, wishes, parities, value):
    """Return whether any object is such a list of people."""
    check_balance(people, wishes, parities)
    ordered = sorted(people)
    if not isinstance(value, list) or not all([person in ordered for person in value]) or not is_ascending(value):
        return False
    return is_odd_among(ordered, wishes, parities, bits_of([ordered.index(person) for person in value]))


def check_both(people, wishes, parities, manner, parity):
    """Raise an error unless these are people, wishes and parities for them, an even manner, and 0 or 1."""
    check_balance(people, wishes, parities)
    check_even_manner(manner)
    check_among(parity, PARITIES)


def meets_all(people, wishes, parities, manner, parity):
    """Return whether some company meets wishes and parities and has a rest."""
    check_both(people, wishes, parities, manner, parity)
    return company_balanced_with_rest(sorted(people), wishes, parities, manner, parity) is not None


def company_for_all(people, wishes, parities, manner, parity):
    """Return a company that meets wishes and parities and has a rest, None if there is none."""
    check_both(people, wishes, parities, manner, parity)
    return company_balanced_with_rest(sorted(people), wishes, parities, manner, parity)


def is_company_for_all(people, wishes, parities, manner, parity, value):
    """Return whether any object is a company that meets wishes and parities and has a rest."""
    check_both(people, wishes, parities, manner, parity)
    return does_meet_both(people, wishes, parities, value) and rest_of_company(value, manner) == parity
