"""Wishes for parities: who is to have an even, and who an odd number of friends.

People, and the free pairs, are told by their places; lots of them by bits.
"""

from evenfriends.lessenings import part_bits
from evenfriends.rests import plain_forms, rest_by_forms
from evenfriends.rows import deeds_of, members, ones, turn
from evenfriends.sums import least_bits, linear_form
from evenfriends.wishforms import company_with, free_among


def ends_of(people, pairs):
    """Return the list of the bits of both people of each of some pairs."""
    return [(1 << one) | (1 << other) for one, other in deeds_of(people, pairs)]


def asked_bits(people, parities):
    """Return the bits of the people whose parity is wished."""
    return sum([1 << at for at, person in enumerate(people) if person in parities])


def lacking_bits(people, wishes, parities):
    """Return the bits of the people whose number of wished friends has not the parity that is wished."""
    lacking = sum([1 << at for at, person in enumerate(people) if parities.get(person, 0) == 1])
    for ends in ends_of(people, [pair for pair, wish in wishes.items() if wish]):
        lacking ^= ends
    return lacking & asked_bits(people, parities)


def searched_from(start, steps):
    """Return the dictionary from all bits that steps lead to, nearest first, to (bits before, place of the step)."""
    found = {start: None}
    layer = [start]
    while len(layer) > 0:
        newer = []
        for bits in layer:
            for at, step in enumerate(steps):
                if bits ^ step not in found:
                    found[bits ^ step] = (bits, at)
                    newer.append(bits ^ step)
        layer = newer
    return found


def fewest_pairs_for(people, wishes, parities):
    """Return as few free pairs as can be, ascending, with which all have their parities, None if there are none."""
    free = free_among(people, wishes)
    asked = asked_bits(people, parities)
    found = searched_from(lacking_bits(people, wishes, parities), [ends & asked for ends in ends_of(people, free)])
    if 0 not in found:
        return None
    pairs = []
    before = found[0]
    while before is not None:
        bits, at = before
        pairs.append(free[at])
        before = found[bits]
    return sorted(pairs)


def company_balanced(people, wishes, parities):
    """Return a company that meets wishes and parities with the fewest free friends, None if there is none."""
    pairs = fewest_pairs_for(people, wishes, parities)
    return None if pairs is None else company_with(people, wishes, pairs)


def does_balance(company, parities):
    """Tell whether people of a company have the parities that are wished."""
    friends = company.friends()
    return all([len([pair for pair in friends if one in pair]) % 2 == parity for one, parity in parities.items()])


def free_rows(people, wishes):
    """Return the rows in which the free pairs are friends."""
    rows = [0] * len(people)
    for deed in deeds_of(people, free_among(people, wishes)):
        turn(rows, deed)
    return rows


def is_odd_among(people, wishes, parities, bits):
    """Tell whether some people, all asked and left by no free pair, lack an odd number of friends together."""
    if bits == 0 or bits & ~asked_bits(people, parities) != 0:
        return False
    rows = free_rows(people, wishes)
    if any([rows[at] & ~bits != 0 for at in members(bits)]):
        return False
    return ones(lacking_bits(people, wishes, parities) & bits) % 2 == 1


def odd_part(people, wishes, parities):
    """Return the bits of a part of the free pairs that lacks an odd number of friends, None if there is none."""
    rows = free_rows(people, wishes)
    for at in range(len(people)):
        bits = part_bits(rows, at)
        if is_odd_among(people, wishes, parities, bits):
            return bits
    return None


def without_place(equation, at, own):
    """Return an equation that has a place in it with the place's own equation added, another one as it is."""
    return equation ^ own if (equation >> at) & 1 == 1 else equation


def solved(people, wishes, parities):
    """Return the dictionary from places of free pairs to bits of other ones, which tell whether they are friends.

    The bit behind those of all free pairs stands for 1. None if the parities cannot be met.
    """
    ends = ends_of(people, free_among(people, wishes))
    lacking = lacking_bits(people, wishes, parities)
    own = {}
    for person in members(asked_bits(people, parities)):
        equation = sum([1 << at for at, both in enumerate(ends) if (both >> person) & 1 == 1])
        equation += ((lacking >> person) & 1) << len(ends)
        for at in own:
            equation = without_place(equation, at, own[at])
        places = members(equation)
        if places == [len(ends)]:
            return None
        if len(places) > 0:
            own = {at: without_place(own[at], places[0], equation) for at in own}
            own[places[0]] = equation
    return {at: equation ^ (1 << at) for at, equation in own.items()}


def company_balanced_with_rest(people, wishes, parities, manner, parity):
    """Return a company that meets wishes and parities and has a rest, None if there is none."""
    told = solved(people, wishes, parities)
    if told is None:
        return None
    free = free_among(people, wishes)
    one = 1 << len(free)
    forms = plain_forms(people, wishes)
    for at, bits in told.items():
        forms[free[at]] = linear_form(bits & ~one, bits & one != 0)
    bits = least_bits(rest_by_forms(people, manner, forms), parity)
    if bits is None:
        return None
    chosen = bits | one
    chosen |= sum([1 << at for at, others in told.items() if ones(others & chosen) % 2 == 1])
    return company_with(people, wishes, [pair for at, pair in enumerate(free) if (chosen >> at) & 1 == 1])
