"""Deeds one after the other: roads from a company to a company, under a manner."""

from evenfriends.companies import check_company, check_two, is_pair_of
from evenfriends.errors import InvalidCount, InvalidRoad
from evenfriends.forms import is_count
from evenfriends.manners import check_manner
from evenfriends.rows import company_of, deeds_of, lets, road_of, rows_behind, rows_of, turn
from evenfriends.searches import numbered_steps, road_numbers


def are_let(rows, manner, deeds):
    """Tell whether each of some deeds is let at what those ahead of it made of rows."""
    now = list(rows)
    for deed in deeds:
        if not lets(now, manner, deed):
            return False
        turn(now, deed)
    return True


def is_list_of_pairs(people, value):
    """Tell whether any object is a list of pairs of some people, perhaps with doubles."""
    return isinstance(value, list) and all([is_pair_of(people, pair) for pair in value])


def is_road_at(company, manner, value):
    """Tell whether any object is a road under a manner at a company."""
    people = company.people()
    if not is_list_of_pairs(people, value):
        return False
    return are_let(rows_of(company), manner, deeds_of(people, value))


def end_of_road(company, road):
    """Return the company to which a road leads."""
    people = company.people()
    return company_of(people, rows_behind(rows_of(company), deeds_of(people, road)))


def does_lead(one, other, manner, value):
    """Tell whether any object is a road under a manner that leads from a company to another one."""
    return is_road_at(one, manner, value) and end_of_road(one, value) == other


def check_road(company, manner, road):
    """Raise an error unless these are a company, a manner, and a road under it there."""
    check_company(company)
    check_manner(manner)
    if not is_road_at(company, manner, road):
        raise InvalidRoad(road)


def is_road(company, manner, value):
    """Return whether any object is a road under a manner at a company."""
    check_company(company)
    check_manner(manner)
    return is_road_at(company, manner, value)


def led(company, manner, road):
    """Return the company to which a road leads."""
    check_road(company, manner, road)
    return end_of_road(company, road)


def states_on(company, road):
    """Return the list of the tuples of rows that a road comes to, the first and the last ones too."""
    now = rows_of(company)
    states = [tuple(now)]
    for deed in deeds_of(company.people(), road):
        turn(now, deed)
        states.append(tuple(now))
    return states


def companies_on(company, manner, road):
    """Return the list of the companies that a road comes to, the first one and the last one too."""
    check_road(company, manner, road)
    people = company.people()
    return [company_of(people, state) for state in states_on(company, road)]


def pairs_differing(one, other):
    """Return the ascending list of the pairs that are friends in just one of two companies."""
    first, second = one.friends(), other.friends()
    return sorted([pair for pair in first if pair not in second] + [pair for pair in second if pair not in first])


def differing_pairs(one, other):
    """Return the ascending list of the pairs that are friends in just one of two companies."""
    check_two(one, other)
    return pairs_differing(one, other)


def leads_to(one, other, manner, value):
    """Return whether any object is a road that leads from a company to another one."""
    check_two(one, other)
    check_manner(manner)
    return does_lead(one, other, manner, value)


def road_back(company, manner, road):
    """Return the road that takes the deeds of a road back, the last one first."""
    check_road(company, manner, road)
    return list(reversed(road))


def cut_short(company, manner, road):
    """Return the road that is left without its detours to companies that it comes to again."""
    check_road(company, manner, road)
    states = states_on(company, road)
    last = {state: at for at, state in enumerate(states)}
    left = []
    at = last[states[0]]
    while at < len(road):
        left.append(road[at])
        at = last[states[at + 1]]
    return left


def exchanged(company, manner, road, at):
    """Return the road with a pair and the one behind it exchanged, None if that is no road."""
    check_road(company, manner, road)
    if not is_count(at) or at + 1 >= len(road):
        raise InvalidCount(at)
    made = road[:at] + [road[at + 1], road[at]] + road[at + 2:]
    return made if is_road_at(company, manner, made) else None


def queues_of(road):
    """Return the dictionary from the people of a road to the lists of their places in it, the last one first."""
    queues = {}
    for at in reversed(range(len(road))):
        for person in road[at]:
            queues.setdefault(person, []).append(at)
    return queues


def least_order(road):
    """Return the least list that exchanges of neighbouring pairs without a common person make of a road."""
    queues = queues_of(road)
    made = []
    for _ in range(len(road)):
        # Exchanges bring to the front just what is the next one for both of its people.
        firsts = [road[queue[-1]] for queue in queues.values() if len(queue) > 0]
        least = min([(one, other) for one, other in firsts if queues[one][-1] == queues[other][-1]])
        made.append(least)
        for person in least:
            queues[person].pop()
    return made


def least_road(company, manner, road):
    """Return the least list that exchanges of neighbouring pairs without a common person make of a road."""
    check_road(company, manner, road)
    return least_order(road)


def same_but_order(company, manner, road, value):
    """Return whether any object is a road with such exchanges made."""
    check_road(company, manner, road)
    return is_list_of_pairs(company.people(), value) and least_order(value) == least_order(road)


def layers_of(company, manner, size):
    """Return the layers of the states on roads of so many deeds, and the numbers of ways behind them."""
    layers = numbered_steps(rows_of(company), manner, size)
    return layers, road_numbers(layers)


def check_size(size):
    """Raise InvalidCount unless any object is a count."""
    if not is_count(size):
        raise InvalidCount(size)


def roads_of(company, manner, size):
    """Return how many roads of so many deeds there are."""
    check_company(company)
    check_manner(manner)
    check_size(size)
    _, numbers = layers_of(company, manner, size)
    return sum(list(numbers[0].values()))


def road_at(company, manner, size, number):
    """Return the road at a position in the ascending list of those of so many deeds."""
    check_company(company)
    check_manner(manner)
    check_size(size)
    layers, numbers = layers_of(company, manner, size)
    state = tuple(rows_of(company))
    if not is_count(number) or number >= numbers[0][state]:
        raise InvalidCount(number)
    deeds = []
    left = number
    for at in range(size):
        deed, state, left = step_at(layers[at][state], numbers[at + 1], left)
        deeds.append(deed)
    return road_of(company.people(), deeds)


def step_at(steps, numbers, position):
    """Return the step on which a position lies, as (deed, state behind it, position among the ways behind it)."""
    left = position
    for deed, behind in steps:
        if left < numbers[behind]:
            return deed, behind, left
        left = left - numbers[behind]
    return None, None, left


def road_place(company, manner, road):
    """Return the position of a road among those of its size."""
    check_road(company, manner, road)
    layers, numbers = layers_of(company, manner, len(road))
    states = states_on(company, road)
    place = 0
    for at, deed in enumerate(deeds_of(company.people(), road)):
        place += sum([numbers[at + 1][behind] for other, behind in layers[at][states[at]] if other < deed])
    return place
