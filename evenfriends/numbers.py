"""Numbers of companies, of lone ones and of classes, for however many people."""

from evenfriends.companies import check_company
from evenfriends.countings import class_number, family_number, lone_number, lone_wholes, numbers_by_rank
from evenfriends.countings import sizes_of_ties, tie_class_size, untied_number, wholly_even_number, wholly_odd_number
from evenfriends.errors import InvalidCount, InvalidManner
from evenfriends.forms import is_count
from evenfriends.manners import check_manner, check_many, is_manner, real_manner
from evenfriends.roads import check_size
from evenfriends.rows import is_odd_in, ones, pairs_in, rows_of
from evenfriends.searches import all_states, explored


def even_families(many, size):
    """Return how many even closed families of a size so many people have."""
    check_many(many)
    check_size(size)
    return family_number(many, size)


def untied_companies(size):
    """Return how many companies of so many people are untied, 1 for nobody."""
    check_size(size)
    return untied_number(size)


def have_even_pairs(rows):
    """Tell whether every two people have an even number of common friends."""
    return not any([is_odd_in(rows, one, other) for one, other in pairs_in(rows)])


def is_wholly_even(company):
    """Return whether each person has an even number of friends, and every two an even number in common."""
    check_company(company)
    rows = rows_of(company)
    return all([ones(row) % 2 == 0 for row in rows]) and have_even_pairs(rows)


def is_wholly_odd(company):
    """Return whether each person has an odd number of friends, and every two an even number in common."""
    check_company(company)
    rows = rows_of(company)
    return all([ones(row) % 2 == 1 for row in rows]) and have_even_pairs(rows)


def rank_of(company):
    """Return the greatest number of people of whom each list, not empty, somebody has an odd number of friends in."""
    check_company(company)
    found = []
    for row in rows_of(company):
        left = row
        for elder in found:
            # That is less which has not the first bit of the elder one.
            left = min(left, left ^ elder)
        if left != 0:
            found.append(left)
    return len(found)


def even_by_rank(many):
    """Return the dictionary from the ranks, ascending, to the numbers of the wholly even companies that have them."""
    check_many(many)
    return numbers_by_rank(many)


def even_count(many):
    """Return how many companies of so many people are wholly even."""
    check_many(many)
    return wholly_even_number(many)


def odd_count(many):
    """Return how many companies of so many people are wholly odd."""
    check_many(many)
    return wholly_odd_number(many)


def lone_count(manner, many):
    """Return how many companies of so many people are lone under a manner."""
    check_manner(manner)
    check_many(many)
    return lone_number(manner, many)


def lone_connected(many):
    """Return how many companies of so many people that are lone under common friends odd are of one part."""
    check_many(many)
    return lone_wholes(many)[many]


def class_count(manner, many):
    """Return how many classes the companies of so many people have under a manner."""
    check_manner(manner)
    check_many(many)
    return class_number(manner, many)


def sizes_found(manner, many):
    """Return the ascending list of the sizes of all classes of so many people, by searching through them."""
    met = {}
    sizes = []
    for state in all_states(many):
        if state not in met:
            lot = list(explored(state, manner))
            sizes.append(len(lot))
            for other in lot:
                met[other] = True
    return sorted(sizes)


def class_sizes(manner, many):
    """Return the dictionary from the sizes of classes, ascending, to the numbers of classes that have them."""
    check_manner(manner)
    check_many(many)
    found = {}
    for size in sizes_found(manner, many):
        found[size] = found.get(size, 0) + 1
    return found


def joined_tuples(manner, many):
    """Return how many tuples of two companies of so many people are joined under a manner."""
    check_manner(manner)
    check_many(many)
    return sum([size * size for size in sizes_found(manner, many)])


def tie_class(many, odd):
    """Return how many companies of so many people have just so many people with an odd number of friends."""
    check_many(many)
    if not is_count(odd) or odd > many:
        raise InvalidCount(odd)
    return tie_class_size(many, odd)


def tie_sizes(manner, many):
    """Return the dictionary from the sizes of classes to their numbers, for a manner whose real one is a tie manner."""
    # Which kinds the real manner counts does not rest on the number of people.
    if not is_manner(manner) or real_manner(manner, 1)[0][0] != (1,):
        raise InvalidManner(manner)
    check_many(many)
    _, word = real_manner(manner, many)[0]
    return {size: number for size, number in sizes_of_ties(many, word)}
