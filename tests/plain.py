"""The document's words said a second time, by sets and plain searches, so that the program can be held against them."""

import functools
import itertools

from evenfriends.companies import Company

EVEN, ODD = ((2,), "even"), ((2,), "odd")
TIES_EVEN, TIES_ODD = ((1,), "even"), ((1,), "odd")
LOTS = [(), (0,), (0, 1), (0, 1, 2), (0, 2), (1,), (1, 2), (2,)]
MANNERS = [(kinds, word) for kinds in LOTS for word in ["even", "odd"]]


class Plain:
    """A company told by sets, as the document's words say it."""

    def __init__(self, company):
        self.people = company.people()
        self.friends = {frozenset(pair) for pair in company.friends()}
        self.pairs = list(itertools.combinations(self.people, 2))
        self.triples = list(itertools.combinations(self.people, 3))

    def are(self, one, other):
        return frozenset([one, other]) in self.friends

    def kind(self, pair, person):
        return self.are(pair[0], person) + self.are(pair[1], person)

    def third(self, pair, kind):
        return [person for person in self.people if person not in pair and self.kind(pair, person) == kind]

    def counted(self, manner, pair):
        return sorted(sum([self.third(pair, kind) for kind in manner[0]], []))

    def lets(self, manner, pair):
        return len(self.counted(manner, pair)) % 2 == ["even", "odd"].index(manner[1])

    def let(self, manner):
        return [pair for pair in self.pairs if self.lets(manner, pair)]

    def friendships(self, triple):
        return sum(self.are(*pair) for pair in itertools.combinations(triple, 2))

    def turned(self, pair):
        friends = {frozenset(pair)} ^ self.friends
        return Plain(Company(self.people, [one for one in self.pairs if frozenset(one) in friends]))

    def numbers(self):
        return [sum(self.friendships(triple) == number for triple in self.triples) for number in range(4)]

    def tallied(self, tally):
        found = self.numbers()
        return (sum(found[number] for number in tally[0]) + (len(self.friends) if tally[1] else 0)) % 2

    def circle(self, person):
        return [one for one in self.people if self.are(one, person)]

    def odd_people(self):
        return [person for person in self.people if len(self.circle(person)) % 2]

    def parts(self):
        found = []
        for person in self.people:
            if not any(person in part for part in found):
                part = [person]
                for one in part:
                    part.extend(other for other in self.circle(one) if other not in part)
                found.append(sorted(part))
        return found

    def cut(self, part):
        friends = [pair for pair in self.pairs if frozenset(pair) in self.friends]
        return Plain(Company(part, [pair for pair in friends if pair[0] in part and pair[1] in part]))

    def company(self):
        return Company(self.people, [pair for pair in self.pairs if frozenset(pair) in self.friends])


def behind(company, road):
    """The company behind the deeds of a road, whether they are let or not."""
    friends = {pair for pair in company.friends()}
    for pair in road:
        friends ^= {pair}
    return Company(company.people(), sorted(friends))


def walked(company, manner, road):
    """The company to which a road leads, deed by deed; None if some deed is not let where it stands."""
    now = Plain(company)
    friends = now.friends
    for pair in road:
        if pair not in now.pairs or not now.lets(manner, pair):
            return None
        friends = friends ^ {frozenset(pair)}
        now.friends = friends
    return now.company()


def key(company):
    return tuple(company.people()), tuple(company.friends())


def from_key(value):
    return Company(list(value[0]), list(value[1]))


@functools.lru_cache(maxsize=None)
def let_at(value, manner):
    return tuple(Plain(from_key(value)).let(manner))


@functools.lru_cache(maxsize=None)
def steps_at(value, manner):
    """The friends, as tuples, behind each deed that is let at the company of a key."""
    people, friends = value
    return [tuple(sorted(set(friends) ^ {pair})) for pair in let_at(value, manner)]


@functools.lru_cache(maxsize=2000)
def searched(value, manner):
    """From the friends of the companies joined with that of a key to how many deeds away they are, by plain search."""
    people, start = value
    away = {start: 0}
    queue = [start]
    for friends in queue:
        for later in steps_at((people, friends), manner):
            if later not in away:
                away[later] = away[friends] + 1
                queue.append(later)
    return away


def away_from(company, manner):
    """From the lists of friends of the companies joined with one, as tuples, to how many deeds away they are."""
    return searched(key(company), manner)


@functools.lru_cache(maxsize=None)
def classes_of(people, manner):
    """All classes of the companies of a tuple of people, each a list of tuples of friends."""
    pairs = list(itertools.combinations(people, 2))
    met, found = set(), []
    for size in range(len(pairs) + 1):
        for friends in itertools.combinations(pairs, size):
            if friends not in met:
                lot = sorted(searched((people, friends), manner))
                met.update(lot)
                found.append(lot)
    return found


@functools.lru_cache(maxsize=None)
def class_places(people, manner):
    """From the friends of all companies of a tuple of people to the positions of their classes."""
    return {friends: at for at, lot in enumerate(classes_of(people, manner)) for friends in lot}


def are_joined(one, other, manner):
    places = class_places(tuple(one.people()), manner)
    return places[tuple(one.friends())] == places[tuple(other.friends())]


def real(manner, many):
    """The real manner as the words of [27] say it."""
    kinds, word = manner
    if len(kinds) > 1:
        kinds = tuple(kind for kind in range(3) if kind not in kinds)
        word = word if many % 2 == 0 else {"even": "odd", "odd": "even"}[word]
    return (((2,), word), True) if kinds == (0,) else ((kinds, word), False)
