"""Third people of pairs, with their kinds, and triples of people."""

from itertools import combinations

from evenfriends.companies import all_pairs, check_company, check_pair_of, check_person_of, circles, pair_of
from evenfriends.errors import InvalidCount
from evenfriends.forms import is_count

KINDS = (0, 1, 2)
FRIENDSHIPS = (0, 1, 2, 3)


def check_among(number, numbers):
    """Raise InvalidCount unless any object is a count that is among some numbers."""
    if not is_count(number) or number not in numbers:
        raise InvalidCount(number)


def kind_of(known, pair, person):
    """Return how many of a pair are friends of a third person; `known` are the circles of the company."""
    return len([one for one in pair if one in known[person]])


def numbers_of(known, pair):
    """Return the list of how many third people of kind 0, 1 and 2 a pair has."""
    kinds = [kind_of(known, pair, person) for person in known if person not in pair]
    return [kinds.count(kind) for kind in KINDS]


def is_odd_pair(known, pair, kind):
    """Tell whether a pair has an odd number of third people of a kind."""
    return numbers_of(known, pair)[kind] % 2 == 1


def friendships_of(known, triple):
    """Return how many pairs of a triple are friends."""
    # Each friendship is met twice, once from each of both.
    return len([one for person in triple for one in known[person] if one in triple]) // 2


def third_people(company, pair, kind):
    """Return the ascending list of the third people of a pair that have a kind."""
    check_company(company)
    check_pair_of(company, pair)
    check_among(kind, KINDS)
    known = circles(company)
    return [person for person in known if person not in pair and kind_of(known, pair, person) == kind]


def kind_numbers(company, pair):
    """Return the list of how many third people of kind 0, 1 and 2 a pair has."""
    check_company(company)
    check_pair_of(company, pair)
    return numbers_of(circles(company), pair)


def triples_of(company, number):
    """Return the ascending list of the triples with a number of friendships."""
    check_company(company)
    check_among(number, FRIENDSHIPS)
    known = circles(company)
    people = company.people()
    return [triple for triple in combinations(people, 3) if friendships_of(known, triple) == number]


def triple_numbers(company):
    """Return the list of how many triples there are with 0, 1, 2 and 3 friendships."""
    check_company(company)
    known = circles(company)
    people = company.people()
    found = [friendships_of(known, triple) for triple in combinations(people, 3)]
    return [found.count(number) for number in FRIENDSHIPS]


def triples_moved(company, pair):
    """Return by how many the triples with 0, 1, 2 and 3 friendships become more if a pair is turned."""
    check_company(company)
    check_pair_of(company, pair)
    known = circles(company)
    none, one, both = numbers_of(known, pair)
    moved = [-none, none - one, one - both, both]
    if pair[1] in known[pair[0]]:
        return [-number for number in moved]
    return moved


def forks(company, person):
    """Return the ascending list of the pairs of friends of a person."""
    check_company(company)
    check_person_of(company, person)
    return all_pairs(circles(company)[person])


def fork_number(company):
    """Return how many forks there are of all people together."""
    check_company(company)
    return sum([len(all_pairs(circle)) for circle in circles(company).values()])


def odd_people(company):
    """Return the ascending list of the people with an odd number of friends."""
    check_company(company)
    return [person for person, circle in circles(company).items() if len(circle) % 2 == 1]


def kinds_moved(company, pair):
    """Return, for each pair that shares one person with a pair, how the kind of the other one moves.

    The tuples (other pair, third person, kind before, kind behind) are ascending.
    """
    check_company(company)
    check_pair_of(company, pair)
    known = circles(company)
    step = -1 if pair[1] in known[pair[0]] else 1
    moved = []
    for stays, third in (pair, (pair[1], pair[0])):
        for person in known:
            if person not in pair:
                other = pair_of(stays, person)
                before = kind_of(known, other, third)
                moved.append((other, third, before, before + step))
    return sorted(moved)


def odd_pairs(company, kind):
    """Return the ascending list of the pairs with an odd number of third people of a kind."""
    check_company(company)
    check_among(kind, KINDS)
    known = circles(company)
    return [pair for pair in all_pairs(company.people()) if is_odd_pair(known, pair, kind)]


def odd_friends(company, person, kind):
    """Return the ascending list of the people who stand with a person in such an odd pair."""
    check_company(company)
    check_person_of(company, person)
    check_among(kind, KINDS)
    known = circles(company)
    return [other for other in known if other != person and is_odd_pair(known, pair_of(person, other), kind)]
