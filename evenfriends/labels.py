"""Labels of people: tuples of 0 and 1; and how a company gets some with as few places as can be.

A column is a count whose bits tell at which people a place is 1.
"""

from itertools import combinations

from evenfriends.companies import Company, all_pairs, is_person
from evenfriends.rows import members, rows_of


def is_label(value):
    """Tell whether any object is a tuple of 0 and 1."""
    if not isinstance(value, tuple):
        return False
    # Python takes True and False for 1 and 0, the document does not.
    return all([isinstance(place, int) and not isinstance(place, bool) and place in (0, 1) for place in value])


def is_labels(value):
    """Tell whether any object is labels."""
    if not isinstance(value, dict) or len(value) == 0:
        return False
    if not all([is_person(person) and is_label(label) for person, label in value.items()]):
        return False
    return all([len(label) == place_number(value) for label in value.values()])


def place_number(labels):
    """Return how many places labels have."""
    lots = list(labels.values())
    return len(lots[0])


def does_cross(one, other):
    """Tell whether two labels of an even number of places cross."""
    pairs = list(zip(one[0::2], one[1::2], other[0::2], other[1::2]))
    return sum([first * fourth + second * third for first, second, third, fourth in pairs]) % 2 == 1


def does_share(one, other):
    """Tell whether two labels share oddly."""
    return sum([first * second for first, second in zip(one, other)]) % 2 == 1


def are_for_crossing(value):
    """Tell whether any object is labels with an even number of places."""
    return is_labels(value) and place_number(value) % 2 == 0


def are_for_sharing(value):
    """Tell whether any object is labels each with an odd number of 1s."""
    return is_labels(value) and all([sum(label) % 2 == 1 for label in value.values()])


def company_by_crossing(labels):
    """Return the company in which those are friends whose labels cross."""
    people = sorted(labels)
    return Company(people, [(one, other) for one, other in all_pairs(people) if does_cross(labels[one], labels[other])])


def company_by_sharing(labels):
    """Return the company in which those are friends whose labels share oddly."""
    people = sorted(labels)
    return Company(people, [(one, other) for one, other in all_pairs(people) if does_share(labels[one], labels[other])])


def are_labels_even(labels):
    """Tell whether each place, and each two places, of labels are 1 for an even number of people."""
    lots = list(labels.values())
    columns = list(zip(*lots))
    if not all([sum(column) % 2 == 0 for column in columns]):
        return False
    return not any([does_share(one, other) for one, other in combinations(columns, 2)])


def without_plane(rest, first, second):
    """Return what is left of rows behind two columns that cross one another."""
    left = list(rest)
    for at in members(first):
        left[at] ^= second
    for at in members(second):
        left[at] ^= first
    return left


def crossing_columns(company):
    """Return the columns of crossing labels of a company, as few as can be."""
    rest = rows_of(company)
    columns = []
    for at in range(len(rest)):
        # Each row that is left has two columns taken out of it, and is nought then.
        if rest[at] != 0:
            first, second = rest[at], rest[members(rest[at])[0]]
            columns += [first, second]
            rest = without_plane(rest, first, second)
    return columns


def without_column(rest, column):
    """Return what is left of rows behind a column."""
    left = list(rest)
    for at in members(column):
        left[at] ^= column
    return left


def sharing_columns(company):
    """Return the columns of sharing labels of a company, as few as can be."""
    rest = [row | (1 << at) for at, row in enumerate(rows_of(company))]
    columns = []
    ahead = own_place(rest)
    while any([row != 0 for row in rest]):
        if ahead is not None:
            columns.append(rest[ahead])
            rest = without_column(rest, rest[ahead])
        else:
            # Nobody shares oddly with themselves: two columns that cross make three with one that is there already.
            first = [row for row in rest if row != 0][0]
            second = rest[members(first)[0]]
            other = columns.pop()
            columns += [other ^ first, other ^ second, other ^ first ^ second]
            rest = without_plane(rest, first, second)
        ahead = own_place(rest)
    return columns


def own_place(rest):
    """Return the first place at which a row has its own bit, None if there is none."""
    places = [at for at, row in enumerate(rest) if (row >> at) & 1 == 1]
    return places[0] if len(places) > 0 else None


def labels_by(company, columns):
    """Return the labels of a company's people, ascending, that have columns."""
    people = company.people()
    return {person: tuple([(column >> at) & 1 for column in columns]) for at, person in enumerate(people)}
