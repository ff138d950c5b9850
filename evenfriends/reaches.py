"""Wishes that can be met from a company under any manner, and the ways there, by search among few people."""

from evenfriends.rows import deeds_of, road_of, rows_of
from evenfriends.searches import shortest_to_wishes
from evenfriends.wishforms import does_meet


def road_to_wishes(company, manner, wishes):
    """Return a road that leads from a company to one that meets wishes, None if there is none."""
    people = company.people()
    pairs = list(wishes)
    wanted = [(deed, wishes[pair]) for deed, pair in zip(deeds_of(people, pairs), pairs)]
    deeds = shortest_to_wishes(rows_of(company), wanted, manner)
    return None if deeds is None else road_of(people, deeds)


def can_be_met(company, manner, wishes):
    """Tell whether some company that is joined with a company meets wishes, where None is met by all."""
    if wishes is None or does_meet(company, wishes):
        return True
    return road_to_wishes(company, manner, wishes) is not None
