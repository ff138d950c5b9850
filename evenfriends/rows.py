"""Friends as rows of bits, for what takes many deeds.

People are told by their places in the ascending list. Bit j of the row at i tells whether the people at i and j are
friends. A deed, or a pair, is a tuple of two places.
"""

from itertools import combinations

from evenfriends.companies import Company, pair_of


def rows_of(company):
    """Return the list of the rows of a company."""
    places = {person: at for at, person in enumerate(company.people())}
    rows = [0] * len(places)
    for one, other in company.friends():
        turn(rows, (places[one], places[other]))
    return rows


def company_of(people, rows):
    """Return the company of some people, ascending, with rows."""
    return Company(people, friends_in(people, rows))


def friends_in(people, rows):
    """Return the ascending list of the friendships in rows, by the names of ascending people."""
    return [(people[one], people[other]) for one, other in pairs_in(rows) if are_in(rows, one, other)]


def pairs_in(rows):
    """Return the ascending list of all pairs of places."""
    return list(combinations(range(len(rows)), 2))


def are_in(rows, one, other):
    """Tell whether the people at two places are friends."""
    return (rows[one] >> other) & 1 == 1


def ones(bits):
    """Return how many bits of a count are 1."""
    text = f"{bits:b}"
    return text.count("1")


def members(bits):
    """Return the ascending list of the places of the bits of a count that are 1."""
    return [at for at in range(bits.bit_length()) if (bits >> at) & 1 == 1]


def bits_of(places):
    """Return the count whose bits at some unlike places, and no others, are 1."""
    return sum([1 << at for at in places])


def is_odd_in(rows, one, other):
    """Tell whether the people at two places have an odd number of common friends."""
    return ones(rows[one] & rows[other]) % 2 == 1


def counted_bits(rows, kinds, pair):
    """Return the bits of the third people of a pair whose kind is one of some kinds."""
    one, other = pair
    first, second = rows[one], rows[other]
    found = 0
    if 0 in kinds:
        found |= ~(first | second)
    if 1 in kinds:
        found |= first ^ second
    if 2 in kinds:
        found |= first & second
    third = ((1 << len(rows)) - 1) & ~((1 << one) | (1 << other))
    return found & third


def lets(rows, manner, pair):
    """Tell whether a pair is let under a manner."""
    kinds, word = manner
    return (ones(counted_bits(rows, kinds, pair)) % 2 == 1) == (word == "odd")


def let_in(rows, manner):
    """Return the ascending list of the pairs of places that are let under a manner."""
    return [pair for pair in pairs_in(rows) if lets(rows, manner, pair)]


def turn(rows, deed):
    """Change a list of rows by a deed."""
    one, other = deed
    rows[one] ^= 1 << other
    rows[other] ^= 1 << one


def turn_all(rows, deeds):
    """Change a list of rows by some deeds."""
    for deed in deeds:
        turn(rows, deed)


def rows_behind(rows, deeds):
    """Return the list of the rows behind some deeds."""
    made = list(rows)
    turn_all(made, deeds)
    return made


def rows_among(rows, places):
    """Return the rows of the people at some places alone, in the order of the places."""
    return [bits_of([at for at, other in enumerate(places) if are_in(rows, one, other)]) for one in places]


def road_of(people, deeds):
    """Return the deeds as a list of pairs of ascending people."""
    return [pair_of(people[one], people[other]) for one, other in deeds]


def deeds_of(people, road):
    """Return a list of pairs of ascending people as deeds."""
    places = {person: at for at, person in enumerate(people)}
    return [(places[one], places[other]) for one, other in road]
