"""Lone companies, in which no pair is let: which they are, how labels make them, and lists of all of them."""

from evenfriends.companies import Company, are_people, check_company, kept_among, opposite
from evenfriends.errors import InvalidCount, InvalidLabels, InvalidPeople
from evenfriends.evenroads import EVEN
from evenfriends.forms import is_count
from evenfriends.labels import are_for_crossing, are_for_sharing, are_labels_even, company_by_crossing
from evenfriends.labels import company_by_sharing, crossing_columns, is_labels, labels_by, sharing_columns
from evenfriends.manners import check_manner, pairs_let
from evenfriends.oddroads import ODD
from evenfriends.rows import friends_in, lets
from evenfriends.triples import odd_people


def is_lone_under(company, manner):
    """Tell whether no pair is let under a manner."""
    return pairs_let(company, manner) == []


def is_lone(company, manner):
    """Return whether a company is lone under a manner."""
    check_company(company)
    check_manner(manner)
    return is_lone_under(company, manner)


def some_let(company, manner):
    """Return the first pair that is let, None if there is none."""
    check_company(company)
    check_manner(manner)
    pairs = pairs_let(company, manner)
    return pairs[0] if len(pairs) > 0 else None


def halves(company):
    """Return the companies of the people with an even, and with an odd number of friends, None for nobody."""
    odd = odd_people(company)
    even = [person for person in company.people() if person not in odd]
    lots = [None if people == [] else kept_among(company, people) for people in (even, odd)]
    return lots[0], lots[1]


def lone_halves(company):
    """Return both halves of a company that is lone under common friends odd, None of another one."""
    check_company(company)
    return halves(company) if is_lone_under(company, ODD) else None


def least_crossing(company):
    """Return crossing labels of a company with as few places as can be."""
    return labels_by(company, crossing_columns(company))


def least_sharing(company):
    """Return sharing labels of a company with as few places as can be."""
    return labels_by(company, sharing_columns(company))


def crossing_labels(company):
    """Return crossing labels of a company with as few places as can be."""
    check_company(company)
    return least_crossing(company)


def are_crossing_labels(company, value):
    """Return whether any object is crossing labels of a company."""
    check_company(company)
    return are_for_crossing(value) and company_by_crossing(value) == company


def sharing_labels(company):
    """Return sharing labels of a company with as few places as can be."""
    check_company(company)
    return least_sharing(company)


def are_sharing_labels(company, value):
    """Return whether any object is sharing labels of a company."""
    check_company(company)
    return are_for_sharing(value) and company_by_sharing(value) == company


def crossing_company(labels):
    """Return the company in which those are friends whose labels cross."""
    if not are_for_crossing(labels):
        raise InvalidLabels(labels)
    return company_by_crossing(labels)


def sharing_company(labels):
    """Return the company in which those are friends whose labels share oddly."""
    if not are_for_sharing(labels):
        raise InvalidLabels(labels)
    return company_by_sharing(labels)


def are_even(labels):
    """Return whether each place, and each two places, of labels are 1 for an even number of people."""
    if not is_labels(labels):
        raise InvalidLabels(labels)
    return are_labels_even(labels)


def lone_parts(company):
    """Return even labels of both halves of a company that is lone under common friends odd, None of another one."""
    check_company(company)
    if not is_lone_under(company, ODD):
        return None
    # The least labels of such halves are even by themselves.
    even, odd = halves(company)
    return {} if even is None else least_crossing(even), {} if odd is None else least_sharing(odd)


def strangers_lone(company):
    """Return even labels of the strangers of a company that is lone under common friends even, None of another one."""
    check_company(company)
    return least_crossing(opposite(company)) if is_lone_under(company, EVEN) else None


def with_row(rows, at, later):
    """Return rows in which the person at a place befriends those of some bits."""
    made = [row | ((later >> other) & 1) << at for other, row in enumerate(rows)]
    made[at] |= later
    return made


def lone_rows(many, manner):
    """Return the list of the rows of all lone companies of so many people.

    People get their friends one by one, and are judged with each elder one as soon as both have all of them.
    """
    found = [[0] * many]
    for at in range(many):
        newer = [with_row(rows, at, later << (at + 1)) for rows in found for later in range(1 << (many - at - 1))]
        found = [rows for rows in newer if not any([lets(rows, manner, (other, at)) for other in range(at)])]
    return found


def lone_friends(people, manner):
    """Return the ascending list of the lists of friends of all lone companies of some people."""
    ordered = sorted(people)
    return sorted([friends_in(ordered, rows) for rows in lone_rows(len(ordered), manner)])


def check_people(people):
    """Raise InvalidPeople unless any object is a list, not empty, of unlike people."""
    if not are_people(people):
        raise InvalidPeople(people)


def lone_companies(people, manner):
    """Return the list of all companies of some people that are lone, ascending by their friends."""
    check_people(people)
    check_manner(manner)
    return [Company(people, friends) for friends in lone_friends(people, manner)]


def lone_at(people, manner, number):
    """Return the lone company of some people at a position."""
    check_people(people)
    check_manner(manner)
    lots = lone_friends(people, manner)
    if not is_count(number) or number >= len(lots):
        raise InvalidCount(number)
    return Company(people, lots[number])


def lone_place(company, manner):
    """Return the position of a company among the lone ones of its people, None if it is not lone."""
    check_company(company)
    check_manner(manner)
    if not is_lone_under(company, manner):
        return None
    return lone_friends(company.people(), manner).index(company.friends())
