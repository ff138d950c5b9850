"""Deeds between rows under common friends even, and the marks of the classes there."""

from itertools import combinations

from evenfriends.lessenings import friendships_in, lessened
from evenfriends.rows import is_odd_in, members, ones, pairs_in

EVEN = ((2,), "even")


def is_lone_in(rows):
    """Tell whether every two people have an odd number of common friends."""
    return all([is_odd_in(rows, one, other) for one, other in pairs_in(rows)])


def odd_place(rows):
    """Return the place of the odd one of nearly complete rows, None if they are not nearly complete."""
    many = len(rows)
    if many < 4 or many % 2 == 1:
        return None
    everybody = (1 << many) - 1
    for odd in range(many):
        others = everybody & ~(1 << odd)
        if ones(rows[odd]) < 2 and all([(rows[at] | (1 << at)) & others == others for at in members(others)]):
            return odd
    return None


def triangle_parity(rows):
    """Return the parity of the number of triangles."""
    # Each triangle is met three times, once from each of its friendships: that leaves the parity.
    return sum([ones(rows[one] & rows[other]) for one, other in friendships_in(rows)]) % 2


def even_mark_of(rows):
    """Return the even mark of rows, with the place of the odd one."""
    if is_lone_in(rows):
        return ("lone",)
    odd = odd_place(rows)
    if odd is not None:
        return ("nearly", odd)
    return ("odd",) if triangle_parity(rows) == 1 else ("even",)


def triangle_in(rows):
    """Return the places of the people with friends, who are a triangle, or nobody."""
    return tuple([at for at, row in enumerate(rows) if row != 0])


def moves_of(triangle, many):
    """Return the list of the moves of a triangle alone, each as the triangle behind it and the deeds of point [41]."""
    moves = []
    outer = [at for at in range(many) if at not in triangle]
    for d, e in combinations(outer, 2):
        for a in triangle:
            b, c = [at for at in triangle if at != a]
            deeds = [(a, d), (d, e), (b, e), (a, e), (a, b), (a, c), (b, c), (b, e)]
            moves.append((tuple(sorted([a, d, e])), deeds))
    return moves


def triangle_deeds(start, goal, many):
    """Return deeds that lead from a triangle alone to another one, with the fewest moves."""
    found = {start: []}
    layer = [start]
    while goal not in found:
        newer = []
        for triangle in layer:
            for behind, deeds in moves_of(triangle, many):
                if behind not in found:
                    found[behind] = found[triangle] + deeds
                    newer.append(behind)
        layer = newer
    return found[goal]


def even_deeds(one, other):
    """Return deeds that lead from rows to other rows that are joined with them."""
    if one == other:
        return []
    there, least = lessened(one)
    back, goal = lessened(other)
    middle = []
    if least != goal:
        middle = triangle_deeds(triangle_in(least), triangle_in(goal), len(one))
    return there + middle + list(reversed(back))
