"""Companies: people, and which pairs of them are friends."""

from itertools import combinations

from evenfriends.errors import InvalidChange, InvalidChanges, InvalidCompany, InvalidCount, InvalidNames
from evenfriends.errors import InvalidPair, InvalidPairs, InvalidPeople, InvalidPerson, Unlike
from evenfriends.forms import are_unlike, is_count, is_word


def is_person(value):
    """Return whether any object is a person: a string of one to eight letters from a to z."""
    return is_word(value)


def is_pair(value):
    """Return whether any object is a pair: a tuple of two unlike people, ascending."""
    if not isinstance(value, tuple) or len(value) != 2:
        return False
    return is_person(value[0]) and is_person(value[1]) and value[0] < value[1]


class Company:
    """Some people, of whom some pairs are friends; it never changes."""

    def __init__(self, people, friends):
        if not are_people(people):
            raise InvalidPeople(people)
        if not are_pairs_of(people, friends):
            raise InvalidPairs(friends)
        self._people = sorted(people)
        self._friends = sorted(friends)

    def people(self):
        """Return the list of the people, ascending."""
        return list(self._people)

    def friends(self):
        """Return the list of the pairs that are friends, ascending."""
        return list(self._friends)

    def __eq__(self, other):
        return isinstance(other, Company) and self._people == other._people and self._friends == other._friends


def are_people(value):
    """Tell whether any object is a list, not empty, of unlike people, in any order."""
    if not isinstance(value, list) or len(value) == 0:
        return False
    return all([is_person(person) for person in value]) and are_unlike(value)


def are_people_of(people, value):
    """Tell whether any object is a list, not empty, of unlike people who are among some people, in any order."""
    return are_people(value) and all([person in people for person in value])


def is_pair_of(people, value):
    """Tell whether any object is a pair of two of some people."""
    if not isinstance(value, tuple) or len(value) != 2:
        return False
    # What is equal to one of the people is a word, so the two can be ordered.
    return value[0] in people and value[1] in people and value[0] < value[1]


def are_pairs_of(people, value):
    """Tell whether any object is a list of unlike pairs of some people, in any order."""
    if not isinstance(value, list):
        return False
    return all([is_pair_of(people, pair) for pair in value]) and are_unlike(value)


def check_company(company):
    """Raise InvalidCompany unless any object is a company."""
    if not isinstance(company, Company):
        raise InvalidCompany(company)


def check_two(one, other):
    """Raise InvalidCompany unless both are companies, and then Unlike unless they are of the same people."""
    check_company(one)
    check_company(other)
    if one.people() != other.people():
        raise Unlike(other)


def is_company_like(company, value):
    """Tell whether any object is a company of the people of a company."""
    return isinstance(value, Company) and value.people() == company.people()


def check_person_of(company, person):
    """Raise InvalidPerson unless any object is a person of a company."""
    if person not in company.people():
        raise InvalidPerson(person)


def check_pair_of(company, pair):
    """Raise InvalidPair unless any object is a pair of people of a company."""
    if not is_pair_of(company.people(), pair):
        raise InvalidPair(pair)


def pair_of(one, other):
    """Return the pair of two unlike people who are given in any order."""
    return (one, other) if one < other else (other, one)


def all_pairs(people):
    """Return the ascending list of all pairs of a list of unlike people, in any order."""
    ordered = sorted(people)
    return list(combinations(ordered, 2))


def circles(company):
    """Return the dictionary from the people, ascending, to the ascending lists of their friends."""
    found = {person: [] for person in company.people()}
    # The friendships are ascending, so each person meets the elder friends in order, then the later ones.
    for one, other in company.friends():
        found[one].append(other)
        found[other].append(one)
    return found


def strangers(company):
    """Return the ascending list of the pairs that are strangers."""
    check_company(company)
    friends = company.friends()
    return [pair for pair in all_pairs(company.people()) if pair not in friends]


def friends_of(company, person):
    """Return the ascending list of a person's friends."""
    check_company(company)
    check_person_of(company, person)
    return circles(company)[person]


def are_friends(company, pair):
    """Return whether a pair of people of the company are friends."""
    check_company(company)
    check_pair_of(company, pair)
    return pair in company.friends()


def friend_numbers(company):
    """Return the dictionary from the people, ascending, to their numbers of friends."""
    check_company(company)
    return {person: len(circle) for person, circle in circles(company).items()}


def is_change(value):
    """Tell whether any object is a change by its form, whether or not it fits a company."""
    if not isinstance(value, tuple) or len(value) != 2:
        return False
    word, thing = value
    if word in ("come", "leave"):
        return is_person(thing)
    return word in ("befriend", "part") and is_pair(thing)


def does_fit(company, change):
    """Tell whether a change, right by its form, fits a company."""
    word, thing = change
    people = company.people()
    if word == "come":
        return thing not in people
    if word == "leave":
        return thing in people and len(people) > 1
    are_now = thing in company.friends()
    return is_pair_of(people, thing) and are_now == (word == "part")


def turned(company, pair):
    """Return the company in which a pair who were strangers are friends, or who were friends strangers."""
    friends = company.friends()
    if pair not in friends:
        return Company(company.people(), friends + [pair])
    return Company(company.people(), [other for other in friends if other != pair])


def kept_among(company, people):
    """Return the company of some of its people, with the friendships among them."""
    return Company(people, [pair for pair in company.friends() if is_pair_of(people, pair)])


def after_change(company, change):
    """Return the company that a change that fits makes of a company."""
    word, thing = change
    if word == "come":
        return Company(company.people() + [thing], company.friends())
    if word == "leave":
        return kept_among(company, [person for person in company.people() if person != thing])
    return turned(company, thing)


def changed(company, change):
    """Return the company behind a change that fits it."""
    check_company(company)
    if not is_change(change) or not does_fit(company, change):
        raise InvalidChange(change)
    return after_change(company, change)


def changed_by(company, changes):
    """Return the company behind a list of changes, each fitting what those ahead of it made."""
    check_company(company)
    if not isinstance(changes, list) or not all([is_change(change) for change in changes]):
        raise InvalidChanges(changes)
    now = company
    for change in changes:
        if not does_fit(now, change):
            raise InvalidChange(change)
        now = after_change(now, change)
    return now


def opposite(company):
    """Return the company of the same people in which friends are strangers and strangers friends."""
    check_company(company)
    return Company(company.people(), strangers(company))


def cone(company, person):
    """Return the company with one person more, who is friends with all."""
    check_company(company)
    people = company.people()
    if not is_person(person) or person in people:
        raise InvalidPerson(person)
    return Company(people + [person], company.friends() + [pair_of(person, other) for other in people])


def side_by_side(one, other):
    """Return the company of the people and the friends of two companies, strangers across."""
    check_company(one)
    check_company(other)
    people = other.people()
    for person in one.people():
        if person in people:
            raise InvalidPeople(people)
    return Company(one.people() + people, one.friends() + other.friends())


def cut_to(company, people):
    """Return the company of some of its people, with those friends that are left."""
    check_company(company)
    if not are_people_of(company.people(), people):
        raise InvalidPeople(people)
    return kept_among(company, people)


def are_names(people, value):
    """Tell whether any object is a dictionary from just some people to unlike people."""
    if not isinstance(value, dict) or len(value) != len(people):
        return False
    if not all([person in value for person in people]):
        return False
    return are_people(list(value.values()))


def renamed(company, names):
    """Return the company with its people's names exchanged by a dictionary."""
    check_company(company)
    if not are_names(company.people(), names):
        raise InvalidNames(names)
    friends = [pair_of(names[one], names[other]) for one, other in company.friends()]
    return Company(list(names.values()), friends)


def company_at(people, number):
    """Return the company of some people that has a number."""
    if not are_people(people):
        raise InvalidPeople(people)
    pairs = all_pairs(people)
    if not is_count(number) or (number >> len(pairs)) != 0:
        raise InvalidCount(number)
    return Company(people, [pair for at, pair in enumerate(pairs) if (number >> at) & 1 == 1])


def company_number(company):
    """Return the company's number: the sum of what its friends are worth."""
    check_company(company)
    friends = company.friends()
    return sum([1 << at for at, pair in enumerate(all_pairs(company.people())) if pair in friends])
