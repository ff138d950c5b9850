"""Deeds between rows under the tie manners, told by who has an odd number of friends.

A deed changes how the numbers of friends of both stand to two: under ties even it is let if both are odd people or
neither is, under ties odd if just one is.
"""

from evenfriends.lessenings import friendship_number, friendships_in
from evenfriends.rows import ones, rows_behind


def odd_places(rows):
    """Return the ascending list of the places of the odd people."""
    return [at for at, row in enumerate(rows) if ones(row) % 2 == 1]


def tie_mark_of(rows, word):
    """Return the mark of rows under the tie manner of a word."""
    odd = len(odd_places(rows))
    if word == "odd":
        return odd
    return (friendship_number(rows) + odd // 2) % 2


def are_tie_joined(one, other, word):
    """Tell whether rows of as many people are joined under the tie manner of a word."""
    many = len(one)
    if one == other or (word == "even" and many == 2):
        return True
    mark = tie_mark_of(one, word)
    return mark == tie_mark_of(other, word) and (word == "even" or mark not in (0, many))


def rows_between(one, other):
    """Return the rows whose friendships are those that just one of two has."""
    return [first ^ second for first, second in zip(one, other)]


def links_in(rows):
    """Return the friendships without the first person.

    Where nobody is odd, the triangles of these with the first person are together just the friendships.
    """
    return [(one, other) for one, other in friendships_in(rows) if one != 0]


def pairing_deeds(rows):
    """Return deeds under ties even behind which nobody is odd."""
    odd = odd_places(rows)
    return list(zip(odd[0::2], odd[1::2]))


def round_deeds(four):
    """Return deeds under ties even that change the friendships of a round of four, where nobody of it is odd."""
    first, second, third, fourth = four
    return [(first, second), (third, fourth), (second, third), (first, fourth)]


def two_links_deeds(one, other):
    """Return deeds under ties even, where nobody is odd, that change two triangles with the first person."""
    first, second = one
    third, fourth = other
    shared = [at for at in one if at in other]
    if len(shared) == 0:
        # The link between the two is changed twice.
        return two_links_deeds(one, (second, third)) + two_links_deeds((second, third), other)
    outer = [at for at in (first, second, third, fourth) if at not in shared]
    return round_deeds([0, outer[0], shared[0], outer[1]])


def tie_even_deeds(one, other):
    """Return deeds under ties even that lead from rows to rows that are joined with them."""
    if one == other:
        return []
    there, back = pairing_deeds(one), pairing_deeds(other)
    # Behind the pairings the links are an even number, as the marks are alike.
    links = links_in(rows_between(rows_behind(one, there), rows_behind(other, back)))
    deeds = []
    for first, second in zip(links[0::2], links[1::2]):
        deeds += two_links_deeds(first, second)
    return there + deeds + list(reversed(back))


def moving_deeds(rows, places):
    """Return deeds under ties odd behind which the odd people, who are as many, are those at some places."""
    odd = odd_places(rows)
    return list(zip([at for at in odd if at not in places], [at for at in places if at not in odd]))


def triangle_deeds_of(rows, three):
    """Return deeds under ties odd, as few as can be, that change the friendships of three, None if there are none."""
    odd = odd_places(rows)
    inside = [at for at in three if at in odd]
    if len(odd) in (0, len(rows)):
        return None
    if len(inside) in (1, 2):
        # Whoever of the three is unlike the two others: that goes round.
        lone = inside if len(inside) == 1 else [at for at in three if at not in odd]
        return circle_deeds(lone[0], [at for at in three if at != lone[0]])
    outer = [at for at in range(len(rows)) if (at in odd) == (len(inside) == 0)]
    first = three[0]
    return [(first, outer[0])] + circle_deeds(first, three[1:]) + [(first, outer[0])]


def circle_deeds(first, others):
    """Return deeds under ties odd round a triangle, of whom the first one is unlike the others."""
    second, third = others
    return [(first, second), (second, third), (first, third)]


def tie_odd_deeds(one, other):
    """Return deeds under ties odd that lead from rows to rows that are joined with them."""
    if one == other:
        return []
    there = moving_deeds(one, odd_places(other))
    now = rows_behind(one, there)
    deeds = []
    for first, second in links_in(rows_between(now, other)):
        # Behind each triangle the odd people are the same ones again.
        deeds += triangle_deeds_of(now, [0, first, second])
    return there + deeds
