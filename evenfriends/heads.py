"""Deeds under common friends odd that make a person a friend of all others of their part, by point [48].

A `Part` tells the rows of a part that is not lone, the place z of the person, X its friends and Y the others. Each
function here looks for one of the rows of deeds of the point and returns its deeds, none if it is not there. They are
asked in order: each one rests on it that those ahead of it are not there.
"""

from itertools import permutations

from evenfriends.rows import are_in, is_odd_in, members, rows_behind


class Part:
    """The rows of a part, a person z of it, X and Y."""

    def __init__(self, rows, z):
        everybody = (1 << len(rows)) - 1
        self.rows = rows
        self.z = z
        self.near = members(rows[z])
        self.far = members(everybody & ~rows[z] & ~(1 << z))

    def odd(self, one, other):
        """Tell whether two people have an odd number of common friends."""
        return is_odd_in(self.rows, one, other)

    def among(self, one, places):
        """Return the list of a person's friends among those at some places."""
        return [at for at in places if are_in(self.rows, one, at)]

    def hidden(self):
        """Return the list of the people of X without friends in Y."""
        return [x for x in self.near if len(self.among(x, self.far)) == 0]


def far_one(part):
    """One of Y, odd with z."""
    for y in part.far:
        if part.odd(part.z, y):
            return [(part.z, y)]
    return []


def near_and_far(part):
    """One of X and one of Y, odd."""
    for x in part.near:
        for y in part.far:
            if part.odd(x, y):
                return [(x, y), (part.z, y)]
    return []


def two_near(part):
    """Two of X, odd, of whom one has a friend in Y."""
    near = part.near
    for x, other in permutations(near, 2):
        if part.odd(x, other):
            for y in part.among(x, part.far):
                return [(x, other), (other, y), (part.z, y)]
    return []


def two_far(part):
    """Two of Y, odd, of whom one has a friend in X."""
    far = part.far
    for y, other in permutations(far, 2):
        if part.odd(y, other):
            for x in part.among(y, part.near):
                return [(y, other), (x, other), (part.z, other)]
    return []


def near_one(part):
    """One of X, odd with z, who has a friend in Y."""
    z = part.z
    for x in part.near:
        if part.odd(z, x):
            for y in part.among(x, part.far):
                other = part.among(x, part.near)[0]
                return [(z, x), (z, y), (x, other), (z, x)]
    return []


def row_to_near(part, start):
    """Return a shortest row of friendships from one of Y to one who has a friend in X, both ends in it."""
    rows_found = [[start]]
    met = {start: True}
    while True:
        newer = []
        for row in rows_found:
            if len(part.among(row[-1], part.near)) > 0:
                return row
            for at in part.among(row[-1], part.far):
                if at not in met:
                    met[at] = True
                    newer.append(row + [at])
        rows_found = newer


def moved_oddness(part, row, other):
    """Return the deeds that move the oddness of one of Y and another one along a row from the first one to X."""
    deeds = []
    now = part.rows
    for at, later in zip(row, row[1:]):
        if not is_odd_in(now, other, later):
            deeds.append((at, other))
            now = rows_behind(now, [(at, other)])
    return deeds


def two_far_away(part):
    """Two of Y, odd, neither with a friend in X, the first one no farther from X than the other."""
    far = part.far
    for y, other in permutations(far, 2):
        if part.odd(y, other):
            row = row_to_near(part, y)
            if len(row) <= len(row_to_near(part, other)):
                x = part.among(row[-1], part.near)[0]
                return moved_oddness(part, row, other) + [(row[-1], other), (x, other), (part.z, other)]
    return []


def hidden_one(part):
    """One of X without friends in Y, odd with z, and one of Y with friends in X."""
    z = part.z
    for x in part.hidden():
        if part.odd(z, x):
            for y in part.far:
                friends = part.among(y, part.near)
                for a in friends:
                    if not are_in(part.rows, a, x):
                        return [(z, x), (x, a), (x, y), (a, y), (z, y), (z, x)]
                if len(friends) > 1:
                    a, b = friends[:2]
                    return [(z, x), (z, a), (z, y), (x, b), (z, x), (z, a)]
    return []


def two_hidden(part):
    """Two of X without friends in Y, odd: this makes one of them odd with z, for the row ahead."""
    hidden = part.hidden()
    for x, other in permutations(hidden, 2):
        if part.odd(x, other):
            return [(x, other)]
    return []


RULES = (far_one, near_and_far, two_near, two_far, near_one, two_far_away, hidden_one, two_hidden)


def next_deeds(part):
    """Return the deeds of the first row that is there."""
    for rule in RULES:
        deeds = rule(part)
        if len(deeds) > 0:
            return deeds
    return []


def head_deeds(rows, z):
    """Return deeds that make a person the head of a part that is not lone, and the rows behind them."""
    made = []
    part = Part(list(rows), z)
    while len(part.far) > 0:
        deeds = next_deeds(part)
        made += deeds
        part = Part(rows_behind(part.rows, deeds), z)
    return made, part.rows
