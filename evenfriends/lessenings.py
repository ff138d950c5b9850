"""The rows of deeds of point [40], under common friends even, that make friendships fewer.

Each function here looks for one of them in rows, and returns its deeds, none if it is not there. They are asked in
order: each one rests on it that those ahead of it are not there.
"""

from itertools import combinations

from evenfriends.rows import are_in, bits_of, is_odd_in, members, ones, pairs_in, rows_behind


def part_bits(rows, one):
    """Return the bits of the people of the part of the person at a place."""
    found = 0
    newer = 1 << one
    while newer != 0:
        found |= newer
        reached = 0
        for at in members(newer):
            reached |= rows[at]
        newer = reached & ~found
    return found


def outside(rows, bits):
    """Return the ascending list of the places whose bits are not among some bits."""
    return members(((1 << len(rows)) - 1) & ~bits)


def friendships_in(rows):
    """Return the ascending list of the pairs that are friends."""
    return [(one, other) for one, other in pairs_in(rows) if are_in(rows, one, other)]


def strangers_in(rows):
    """Return the list of the strangers, each pair in both orders."""
    pairs = [(one, other) for one, other in pairs_in(rows) if not are_in(rows, one, other)]
    return pairs + [(other, one) for one, other in pairs]


def one_parted(rows):
    """A friendship with an even number of common friends."""
    for one, other in friendships_in(rows):
        if not is_odd_in(rows, one, other):
            return [(one, other)]
    return []


def strangers_with_common(rows):
    """Strangers with an even number of common friends, not 0."""
    for x, y in strangers_in(rows):
        both = rows[x] & rows[y]
        if both != 0 and not is_odd_in(rows, x, y):
            w = members(both)[0]
            t = members(rows[w] & rows[x])[0]
            return [(x, y), (w, x), (w, t)]
    return []


def strangers_without_common(rows):
    """Strangers without common friends, of whom one has a friend with an odd number in common with the other."""
    for x, y in strangers_in(rows):
        if rows[x] & rows[y] == 0:
            for w in members(rows[x]):
                if is_odd_in(rows, w, y):
                    r = members(rows[w] & rows[x])[0]
                    return [(x, y), (w, y), (w, x), (w, r), (r, x)]
    return []


def four_but_one(rows):
    """Four people who are all friends but two, and somebody of another part."""
    for x, y in strangers_in(rows):
        away = outside(rows, part_bits(rows, x))
        both = members(rows[x] & rows[y])
        for w, t in combinations(both, 2):
            if are_in(rows, w, t) and len(away) > 0:
                v = away[0]
                return [(v, x), (v, y), (x, y), (w, x), (t, y), (x, y), (t, x)]
    return []


def triangles_at(rows, w):
    """Return the list of the pairs of friends of a person who are friends of one another."""
    friends = members(rows[w])
    return [(one, other) for one, other in combinations(friends, 2) if are_in(rows, one, other)]


def two_triangles(rows):
    """Two triangles that share one person alone, without other friendships, and somebody of another part."""
    for w in range(len(rows)):
        away = outside(rows, part_bits(rows, w))
        triangles = triangles_at(rows, w)
        for (x, t), (y, s) in combinations(triangles, 2):
            across = (rows[x] | rows[t]) & bits_of([y, s])
            if len(away) > 0 and x not in (y, s) and t not in (y, s) and across == 0:
                v = away[0]
                return [(v, x), (v, y), (v, w), (w, x), (t, w), (w, y), (s, w)]
    return []


def triangle_and_friends(rows):
    """A triangle, and two friends of another part."""
    for u, v in friendships_in(rows):
        for a in outside(rows, part_bits(rows, u)):
            triangles = triangles_at(rows, a)
            if len(triangles) > 0:
                b, c = triangles[0]
                return [(a, u), (b, v), (a, v), (a, b), (a, c), (b, c), (b, v)]
    return []


def five_friends(rows):
    """Five people who are all friends, and two of two other parts."""
    for lot in combinations(range(len(rows)), 5):
        bits = bits_of(lot)
        if all([(rows[at] | (1 << at)) & bits == bits for at in lot]):
            away = outside(rows, part_bits(rows, lot[0]))
            for u, v in combinations(away, 2):
                if (part_bits(rows, u) >> v) & 1 == 0:
                    a, b, c, d, e = lot
                    return [(a, u), (b, v), (u, v), (a, v), (a, b), (a, c), (b, d), (b, v), (c, e)]
    return []


RULES = (
    one_parted, strangers_with_common, strangers_without_common, four_but_one, two_triangles, triangle_and_friends,
    five_friends,
)


def lessening_deeds(rows):
    """Return deeds, at most 9, that lead from rows to fewer friendships, none if there are no such deeds."""
    for rule in RULES:
        deeds = rule(rows)
        if len(deeds) > 0:
            return deeds
    return []


def lessened(rows):
    """Return deeds that lead from rows to the fewest friendships of their class, and the rows behind them."""
    made = []
    now = list(rows)
    deeds = lessening_deeds(now)
    while len(deeds) > 0:
        made += deeds
        now = rows_behind(now, deeds)
        deeds = lessening_deeds(now)
    return made, now


def friendship_number(rows):
    """Return how many friendships there are in rows."""
    return sum([ones(row) for row in rows]) // 2
