"""How many families, lone companies and classes there are, by sums and products alone.

Closed families are spaces over the numbers 0 and 1, and even ones are spaces whose lists all cross one another evenly.
"""

from math import comb

from evenfriends.manners import real_manner

# Classes of the companies of one part under common friends odd, of one to four people.
FEW_PART_CLASSES = (1, 1, 1, 5)
# All classes under common friends even, of one to four people.
FEW_EVEN_CLASSES = (1, 1, 2, 5)


def company_total(many):
    """Return how many companies so many people, perhaps nobody, have."""
    return 1 << (many * (many - 1) // 2)


def untied_number(size):
    """Return how many companies of so many people are untied."""
    if size % 2 == 1:
        return 0
    found = 1
    for half in range(size // 2):
        found = (found * ((1 << (2 * half + 1)) - 1)) << (2 * half)
    return found


def even_spaces(half, size):
    """Return how many spaces of a size are even in a space of twice the half, of which no list is even with all."""
    if size > half:
        return 0
    above = below = 1
    for at in range(size):
        above = above * ((1 << (2 * (half - at))) - 1)
        below = below * ((1 << (at + 1)) - 1)
    return above // below


def family_number(many, size):
    """Return how many even closed families of a size so many people have."""
    if many % 2 == 1:
        return even_spaces(many // 2, size)
    # The list of all people is even with all even lists: it is in the family, or each of its lists had two choices.
    half = many // 2 - 1
    with_all = even_spaces(half, size - 1) if size > 0 else 0
    return with_all + (even_spaces(half, size) << size)


def numbers_by_rank(many):
    """Return the dictionary from the ranks of wholly even companies to their numbers, without noughts."""
    found = {rank: family_number(many, rank) * untied_number(rank) for rank in range(many + 1)}
    return {rank: number for rank, number in found.items() if number > 0}


def wholly_even_number(many):
    """Return how many companies of so many people, perhaps nobody, are wholly even."""
    return 1 if many == 0 else sum(list(numbers_by_rank(many).values()))


def wholly_odd_number(many):
    """Return how many companies of so many people, perhaps nobody, are wholly odd."""
    return 0 if many % 2 == 1 else wholly_even_number(many)


def lone_odd_number(many):
    """Return how many companies of so many people are lone under common friends odd."""
    ways = range(many + 1)
    return sum([comb(many, part) * wholly_even_number(part) * wholly_odd_number(many - part) for part in ways])


def tie_start(many):
    """Return how many companies of so many people have a given lot, of an even number, as their odd people."""
    return company_total(many - 1)


def lone_number(manner, many):
    """Return how many companies of so many people are lone under any manner."""
    (kinds, word), _ = real_manner(manner, many)
    if many == 1:
        return 1
    if kinds == ():
        return 0 if word == "even" else company_total(many)
    if kinds == (1,):
        lone = tie_start(many) if many % 2 == 1 else 2 * tie_start(many)
        return 0 if word == "even" else lone
    if word == "odd":
        return lone_odd_number(many)
    return wholly_even_number(many) if many % 2 == 1 else 0


def whole_numbers(totals):
    """Return how many companies are of one part, from how many there are of any number of parts.

    Both are lists by the number of people, from nobody on, of companies that may stand side by side.
    """
    found = [0]
    for many in range(1, len(totals)):
        # The part of the first person has some of the others in it; the rest is any company.
        sizes = range(1, many)
        others = sum([comb(many - 1, size - 1) * found[size] * totals[many - size] for size in sizes])
        found.append(totals[many] - others)
    return found


def parted_total(numbers):
    """Return the sum, over all ways to part the people, of the products of the numbers that the parts' sizes have."""
    totals = [1]
    for many in range(1, len(numbers)):
        sizes = range(1, many + 1)
        totals.append(sum([comb(many - 1, size - 1) * numbers[size] * totals[many - size] for size in sizes]))
    return totals[-1]


def lone_wholes(many):
    """Return how many lone companies under common friends odd are of one part, for nobody up to so many people."""
    return whole_numbers([lone_odd_number(size) for size in range(many + 1)])


def even_class_number(many):
    """Return how many classes there are under common friends even."""
    if many <= len(FEW_EVEN_CLASSES):
        return FEW_EVEN_CLASSES[many - 1]
    return 2 + wholly_even_number(many) if many % 2 == 1 else 2 + many


def odd_class_number(many):
    """Return how many classes there are under common friends odd."""
    few = [0] + list(FEW_PART_CLASSES)
    more = [2 + number for number in lone_wholes(many)[len(few):]]
    return parted_total((few + more)[:many + 1])


def tie_class_number(many, word):
    """Return how many classes there are under the tie manner of a word."""
    if word == "even":
        return 1 if many < 3 else 2
    return lone_number(((1,), word), many) + len(range(2, many, 2))


def class_number(manner, many):
    """Return how many classes the companies of so many people have under any manner."""
    (kinds, word), _ = real_manner(manner, many)
    if kinds == ():
        return 1 if word == "even" else company_total(many)
    if kinds == (1,):
        return tie_class_number(many, word)
    return even_class_number(many) if word == "even" else odd_class_number(many)


def tie_class_size(many, odd):
    """Return how many companies of so many people have just so many odd people."""
    return 0 if odd % 2 == 1 else comb(many, odd) * tie_start(many)


def sizes_of_ties(many, word):
    """Return the ascending list of the tuples (size, how many classes) under the tie manner of a word."""
    if word == "even":
        return [(company_total(many), 1)] if many < 3 else [(company_total(many) // 2, 2)]
    found = {1: lone_number(((1,), word), many)}
    for odd in range(2, many, 2):
        size = tie_class_size(many, odd)
        found[size] = found.get(size, 0) + 1
    return sorted(list(found.items()))
