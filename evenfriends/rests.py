"""The rest of a company under an even manner: the parity of its triangles, or of its forks."""

from itertools import combinations

from evenfriends.companies import all_pairs, pair_of
from evenfriends.errors import InvalidManner
from evenfriends.evenroads import EVEN, triangle_parity
from evenfriends.manners import is_manner
from evenfriends.rows import ones, rows_of
from evenfriends.sums import product_of, sum_of
from evenfriends.ties import TIES_EVEN
from evenfriends.wishforms import free_among


def check_even_manner(manner):
    """Raise InvalidManner unless any object is one of the even manners, common friends or ties."""
    if not is_manner(manner) or manner not in (EVEN, TIES_EVEN):
        raise InvalidManner(manner)


def rest_in(rows, manner):
    """Return the rest of rows under an even manner."""
    if manner == EVEN:
        return triangle_parity(rows)
    # A number of friends has an odd number of pairs if its rest by four is 2 or 3.
    return len([row for row in rows if ones(row) % 4 > 1]) % 2


def rest_of_company(company, manner):
    """Return the rest of a company under an even manner."""
    return rest_in(rows_of(company), manner)


def groups_of(people, manner):
    """Return the list of the tuples of pairs who all have to be friends for a triangle, or a fork."""
    ordered = sorted(people)
    if manner == EVEN:
        return [((a, b), (a, c), (b, c)) for a, b, c in combinations(ordered, 3)]
    groups = []
    for person in ordered:
        around = [pair_of(person, other) for other in ordered if other != person]
        groups += all_pairs(around)
    return groups


def rest_by_forms(people, manner, forms):
    """Return the sum that is the rest, where a dictionary tells each pair's own sum: 1 if they are friends."""
    return sum_of([product_of([forms[pair] for pair in group]) for group in groups_of(people, manner)])


def plain_forms(people, wishes):
    """Return the dictionary from all pairs to their sums: the free ones are told by their places."""
    forms = {pair: {0: True} if wish else {} for pair, wish in wishes.items()}
    for at, pair in enumerate(free_among(people, wishes)):
        forms[pair] = {1 << at: True}
    return forms


def rest_by_wishes(people, wishes, manner):
    """Return the sum that is the rest of the companies that meet wishes."""
    return rest_by_forms(people, manner, plain_forms(people, wishes))
