"""Deeds between rows of one part under common friends odd."""

from evenfriends.evenroads import even_deeds, odd_place, triangle_parity
from evenfriends.heads import head_deeds
from evenfriends.lessenings import friendship_number
from evenfriends.rows import is_odd_in, members, pairs_in, rows_among, rows_behind
from evenfriends.searches import shortest_deeds

ODD = ((2,), "odd")

# Parts of so many people are few enough to search through; from more on three further people are always there.
FEW = 5


def is_lone_part(rows):
    """Tell whether every two people of a part have an even number of common friends."""
    return not any([is_odd_in(rows, one, other) for one, other in pairs_in(rows)])


def odd_mark_of(rows):
    """Return the odd mark of a part with rows."""
    if is_lone_part(rows):
        return "lone"
    return "odd" if (friendship_number(rows) + triangle_parity(rows)) % 2 == 1 else "even"


def completeness_deeds(rows, z):
    """Return deeds behind which the others of a part with the head z are not nearly complete, from six others on."""
    others = [at for at in range(len(rows)) if at != z]
    odd = odd_place(rows_among(rows, others))
    if odd is None:
        return []
    v = others[odd]
    rest = [at for at in others if at != v]
    friends = [at for at in members(rows[v]) if at != z]
    x = friends[0] if len(friends) > 0 else rest[0]
    first, second, third = [at for at in rest if at != x][:3]
    deeds = [] if len(friends) > 0 else [(x, v)]
    return deeds + [(z, x), (z, first), (x, second), (z, x), (first, third), (z, first)]


def plain_deeds(rows, z):
    """Return deeds behind which z is the head of a part and the others are not nearly complete, and the rows there."""
    deeds, headed_rows = head_deeds(rows, z)
    more = completeness_deeds(headed_rows, z)
    return deeds + more, rows_behind(headed_rows, more)


def odd_deeds(one, other):
    """Return deeds that lead from rows of a part to other rows that are joined with them."""
    if one == other:
        return []
    many = len(one)
    if many <= FEW:
        return shortest_deeds(one, other, ODD)
    there, start = plain_deeds(one, 0)
    back, goal = plain_deeds(other, 0)
    # Among the others of a part with a head just those are let who have an even number of common friends there.
    others = list(range(1, many))
    middle = even_deeds(rows_among(start, others), rows_among(goal, others))
    return there + [(others[first], others[second]) for first, second in middle] + list(reversed(back))
