"""The companies of a class under an even manner that meet wishes, told by which free pairs are friends in them."""

from itertools import combinations

from evenfriends.companies import Company, pair_of, turned
from evenfriends.evenroads import EVEN
from evenfriends.evens import mark_of
from evenfriends.rests import rest_by_wishes, rest_of_company
from evenfriends.rows import ones
from evenfriends.sums import least_bits
from evenfriends.wishforms import company_with, does_meet, free_among, free_friends


def is_small(company, manner):
    """Tell whether a company is lone or nearly complete under common friends even, so that its class is small."""
    return manner == EVEN and mark_of(company)[0] in ("lone", "nearly")


def small_class(company):
    """Return the list of the companies of the class of a lone or a nearly complete company."""
    mark = mark_of(company)
    if mark[0] == "lone":
        return [company]
    odd = mark[1]
    others = [person for person in company.people() if person != odd]
    bare = Company(company.people(), [pair for pair in company.friends() if odd not in pair])
    return [bare] + [turned(bare, pair_of(odd, person)) for person in others]


def is_in_class(company, manner, rest):
    """Tell whether a company is one of the class that a rest tells: all with it but those of small classes."""
    return rest_of_company(company, manner) == rest and not is_small(company, manner)


def fewest_free_in_class(company, wishes, manner):
    """Return a company of a class that meets wishes with the fewest free pairs that are friends, None if none does."""
    if is_small(company, manner):
        lots = [other for other in small_class(company) if does_meet(other, wishes)]
        numbers = [len(free_friends(other, wishes)) for other in lots]
        return lots[numbers.index(min(numbers))] if len(lots) > 0 else None
    people = company.people()
    free = free_among(people, wishes)
    rest = rest_of_company(company, manner)
    bits = least_bits(rest_by_wishes(people, wishes, manner), rest)
    if bits is None:
        return None
    # Fewer pairs do not give the rest; those that do may give a lone company, or a nearly complete one.
    for size in range(ones(bits), len(free) + 1):
        for pairs in combinations(free, size):
            other = company_with(people, wishes, list(pairs))
            if is_in_class(other, manner, rest):
                return other
    return None


def lots_of(things):
    """Return the list of all lists of some of a list of things, in its order."""
    found = [[]]
    for thing in things:
        found = found + [lot + [thing] for lot in found]
    return found


def all_in_class(company, wishes, manner):
    """Return the list of the companies of a class that meet wishes, ascending by their lists of friends."""
    if is_small(company, manner):
        met = [other for other in small_class(company) if does_meet(other, wishes)]
    else:
        people = company.people()
        rest = rest_of_company(company, manner)
        all_met = [company_with(people, wishes, pairs) for pairs in lots_of(free_among(people, wishes))]
        met = [other for other in all_met if is_in_class(other, manner, rest)]
    friends = sorted([other.friends() for other in met])
    return [Company(company.people(), one) for one in friends]
