"""Wishes by their form, and the companies that meet them."""

from evenfriends.companies import Company, all_pairs, is_pair, is_pair_of
from evenfriends.errors import InvalidWishes
from evenfriends.forms import is_count


def is_wishes(value):
    """Tell whether any object is a dictionary from pairs of any people to True or False."""
    if not isinstance(value, dict):
        return False
    return all([is_pair(pair) and isinstance(wish, bool) for pair, wish in value.items()])


def are_wishes_for(people, value):
    """Tell whether any object is wishes for some people."""
    return is_wishes(value) and all([is_pair_of(people, pair) for pair in value])


def check_wishes(people, wishes):
    """Raise InvalidWishes unless any object is wishes for some people."""
    if not are_wishes_for(people, wishes):
        raise InvalidWishes(wishes)


def is_bit(value):
    """Tell whether any object is 0 or 1."""
    return is_count(value) and value < 2


def check_parities(people, parities):
    """Raise InvalidWishes unless any object is a dictionary from some of the people to 0 or 1."""
    if not isinstance(parities, dict):
        raise InvalidWishes(parities)
    if not all([person in people and is_bit(parity) for person, parity in parities.items()]):
        raise InvalidWishes(parities)


def wishes_in_order(wishes):
    """Return wishes with their pairs ascending."""
    return {pair: wishes[pair] for pair in sorted(wishes)}


def does_meet(company, wishes):
    """Tell whether a company meets wishes for its people."""
    friends = company.friends()
    return all([(pair in friends) == wish for pair, wish in wishes.items()])


def free_among(people, wishes):
    """Return the ascending list of the free pairs of some people."""
    return [pair for pair in all_pairs(people) if pair not in wishes]


def company_with(people, wishes, pairs):
    """Return the company that meets wishes and in which, of the free pairs, just those of a list are friends."""
    return Company(people, [pair for pair, wish in wishes.items() if wish] + pairs)


def free_friends(company, wishes):
    """Return the ascending list of the free pairs that are friends in a company."""
    return [pair for pair in company.friends() if pair not in wishes]
