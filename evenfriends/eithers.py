"""Pairs that are let under one of two manners: what the two let together, and the fewest deeds under either."""

from evenfriends.countings import company_total, lone_number, wholly_even_number, wholly_odd_number
from evenfriends.manners import contrary, is_manner
from evenfriends.rows import lets, pairs_in, rows_behind

ALL = ((), "even")
NONE = ((), "odd")


def are_manners(value):
    """Tell whether any object is an ascending list of two unlike manners."""
    if not isinstance(value, list) or len(value) != 2:
        return False
    return is_manner(value[0]) and is_manner(value[1]) and value[0] < value[1]


def let_either(rows, manners):
    """Return the ascending list of the pairs of places that are let under one of some manners."""
    return [pair for pair in pairs_in(rows) if any([lets(rows, manner, pair) for manner in manners])]


def plain_manner(manner, many):
    """Return the manner with at most one kind that lets the same for so many people, from two on."""
    return manner if len(manner[0]) < 2 else contrary(manner, many)


def single_manner(manners, many):
    """Return the one manner that lets what two let together for so many people, from two on, None if none does so."""
    one, other = [plain_manner(manner, many) for manner in manners]
    if one == other or other == NONE:
        return one
    if one == NONE:
        return other
    return ALL if ALL in (one, other) else None


def shortest_either(rows, goal, manners):
    """Return the fewest deeds under either manner that lead from rows to other rows, None if none do."""
    start = tuple(rows)
    found = {start: []}
    layer = [start]
    while tuple(goal) not in found and len(layer) > 0:
        newer = []
        for state in layer:
            for deed in let_either(state, manners):
                behind = tuple(rows_behind(state, [deed]))
                if behind not in found:
                    found[behind] = found[state] + [deed]
                    newer.append(behind)
        layer = newer
    return found.get(tuple(goal), None)


def both_number(many, one, other):
    """Return how many companies are lone under two unlike manners of one kind each, from two people on."""
    (first, word), (second, other_word) = one, other
    odd_words = [word, other_word].count("odd")
    if ((1,), "even") in (one, other) or first == second or odd_words == 0:
        return 0
    if odd_words == 1:
        return wholly_even_number(many) if many % 2 == 1 else 0
    if (1,) in (first, second):
        return wholly_even_number(many) + wholly_odd_number(many)
    return 2 * wholly_even_number(many) if many % 2 == 0 else 0


def lone_under_both(many, manners):
    """Return how many companies of so many people are lone under both of two manners."""
    if many == 1:
        return company_total(many)
    single = single_manner(manners, many)
    if single is not None:
        return lone_number(single, many)
    one, other = [plain_manner(manner, many) for manner in manners]
    return both_number(many, one, other)
