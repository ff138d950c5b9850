"""Sums of products of parities: which lots of free places have to be 1 for a rest to change.

A lot is told by the bits of its places. A sum is a dictionary from its lots to True; it is 1 if an odd number of its
lots lie within the places that are 1. The empty lot always does.
"""

from evenfriends.rows import members, ones


def turn_lot(found, lot):
    """Put a lot into a sum, or take it out if it is there."""
    if lot in found:
        del found[lot]
    else:
        found[lot] = True


def product_of(forms):
    """Return the sum that is 1 just if each of some sums is."""
    found = {0: True}
    for form in forms:
        newer = {}
        for one in found:
            for other in form:
                turn_lot(newer, one | other)
        found = newer
    return found


def sum_of(forms):
    """Return the sum that is 1 just if an odd number of some sums are."""
    found = {}
    for form in forms:
        for lot in form:
            turn_lot(found, lot)
    return found


def least_bits(found, parity):
    """Return as few places as can be, as bits, with which a sum has a parity, None if it never has."""
    if (0 in found) == (parity == 1):
        return 0
    # Within a lot of the fewest places there is no other one but the empty one.
    lots = sorted([(ones(lot), lot) for lot in found if lot != 0])
    return lots[0][1] if len(lots) > 0 else None


def joined_lots(found, at):
    """Return the bits of the places that stand in a lot of two beside a place, and whether it is a lot by itself."""
    bit = 1 << at
    beside = sum([lot ^ bit for lot in found if lot & bit != 0 and lot != bit])
    return beside, bit in found


def surplus_of(found, many):
    """Return how many more of the choices of so many places make a sum of lots of at most two 0 than make it 1."""
    sign, doubled = 1, 0
    left = list(range(many))
    while len(left) > 0:
        at = left.pop()
        beside, alone = joined_lots(found, at)
        rest = {lot: True for lot in found if lot & (1 << at) == 0}
        doubled += 1
        if beside == 0 and alone:
            # The two choices of this place take each other away, whatever the others are.
            return 0
        if beside != 0:
            # They do but where what stands beside it is even: that tells the choice of one of the others.
            other = members(beside)[0]
            left.remove(other)
            rest = replaced(rest, other, linear_form(beside ^ (1 << other), alone))
        found = rest
    if 0 in found:
        sign = -1
    return sign * (1 << doubled)


def linear_form(bits, alone):
    """Return the sum of some places, as bits, and of the empty lot if that is told."""
    found = {1 << at: True for at in members(bits)}
    if alone:
        found[0] = True
    return found


def replaced(found, at, form):
    """Return a sum in which a place is replaced by a sum."""
    bit = 1 << at
    kept = {lot: True for lot in found if lot & bit == 0}
    changed = [product_of([{lot ^ bit: True}, form]) for lot in found if lot & bit != 0]
    return sum_of([kept] + changed)
