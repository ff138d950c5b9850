"""Deeds on pairs with an odd number of common friends: which companies are joined, and by which roads."""

from evenfriends.companies import Company, all_pairs, check_company, check_two, is_company_like, is_pair_of, kept_among
from evenfriends.lessenings import part_bits
from evenfriends.oddroads import ODD, odd_deeds, odd_mark_of
from evenfriends.roads import does_lead
from evenfriends.rows import members, road_of, rows_of


def parts_in(company):
    """Return the ascending list of the ascending lists of the people of a part."""
    people = company.people()
    rows = rows_of(company)
    lots = [part_bits(rows, at) for at in range(len(rows))]
    # Each part is taken where its first person stands.
    return [[people[one] for one in members(bits)] for at, bits in enumerate(lots) if members(bits)[0] == at]


def mark_of_part(company, part):
    """Return the odd mark of a part of a company."""
    return odd_mark_of(rows_of(kept_among(company, part)))


def is_parted(one, other, part):
    """Tell whether two companies that both have a part are parted in it."""
    first, second = kept_among(one, part), kept_among(other, part)
    if first == second:
        return False
    mark = odd_mark_of(rows_of(first))
    return mark == "lone" or mark != odd_mark_of(rows_of(second))


def are_joined_oddly(one, other):
    """Tell whether two companies of the same people are joined."""
    parts = parts_in(one)
    return parts == parts_in(other) and not any([is_parted(one, other, part) for part in parts])


def parts_of(company):
    """Return the ascending list of the ascending lists of the people of a part."""
    check_company(company)
    return parts_in(company)


def odd_marks(company):
    """Return the list of the odd marks of the parts, in their order."""
    check_company(company)
    return [mark_of_part(company, part) for part in parts_in(company)]


def joined_oddly(one, other):
    """Return whether two companies are joined."""
    check_two(one, other)
    return are_joined_oddly(one, other)


def odd_parting(one, other):
    """Return what parts two companies that are not joined, None if they are joined."""
    check_two(one, other)
    parts = parts_in(one)
    if parts != parts_in(other):
        return ("parts",)
    for part in parts:
        if is_parted(one, other, part):
            return (part, mark_of_part(one, part), mark_of_part(other, part))
    return None


def is_like_a_tree(mark, many):
    """Tell whether a part of so many people that is not lone has the odd mark of a tree."""
    return (many % 2 == 0) == (mark == "odd")


def star(part):
    """Return the friendships of the first person of a part with all others."""
    return [(part[0], person) for person in part[1:]]


def least_friends(company, part):
    """Return as few friendships as can be that a part comes to."""
    mark = mark_of_part(company, part)
    if mark == "lone":
        return kept_among(company, part).friends()
    if is_like_a_tree(mark, len(part)):
        return star(part)
    # A round of four, with the first person as the only friend of all others: at least five people.
    first, second, third, fourth = part[:4]
    rest = [pair for pair in star(part) if pair != (first, third)]
    return rest + [(second, third), (third, fourth)]


def headed_friends(company, part):
    """Return friendships that a part comes to and, if it is not lone, in which its first person is the head."""
    mark = mark_of_part(company, part)
    if mark == "lone":
        return kept_among(company, part).friends()
    if is_like_a_tree(mark, len(part)):
        return star(part)
    # Among the others an odd number of triangles changes the parity: here one.
    return star(part) + all_pairs(part[1:4])


def least_in_class(company):
    """Return a company with the fewest friendships of those that are joined with a company."""
    friends = [pair for part in parts_in(company) for pair in least_friends(company, part)]
    return Company(company.people(), friends)


def fewest_oddly(company):
    """Return the least number of friendships that a company joined with it has."""
    check_company(company)
    return len(least_in_class(company).friends())


def least_oddly(company):
    """Return a company with so few friendships that is joined with it."""
    check_company(company)
    return least_in_class(company)


def is_least_oddly(company, value):
    """Return whether any object is a company with so few friendships that is joined with it."""
    check_company(company)
    if not is_company_like(company, value) or not are_joined_oddly(company, value):
        return False
    return len(value.friends()) == len(least_in_class(company).friends())


def headed(company):
    """Return a company joined with it in which each part that is not lone has a head."""
    check_company(company)
    friends = [pair for part in parts_in(company) for pair in headed_friends(company, part)]
    return Company(company.people(), friends)


def has_head(company, part):
    """Tell whether somebody of a part is a friend of all others of it."""
    friends = company.friends()
    return any([len([pair for pair in friends if person in pair]) == len(part) - 1 for person in part])


def is_headed(company, value):
    """Return whether any object is a company joined with it in which each part that is not lone has a head."""
    check_company(company)
    if not is_company_like(company, value) or not are_joined_oddly(company, value):
        return False
    parts = parts_in(value)
    return all([has_head(value, part) or mark_of_part(value, part) == "lone" for part in parts])


def odd_road(one, other):
    """Return a road that leads from a company to another one, None if they are not joined."""
    check_two(one, other)
    if not are_joined_oddly(one, other):
        return None
    road = []
    for part in parts_in(one):
        first, second = rows_of(kept_among(one, part)), rows_of(kept_among(other, part))
        road += road_of(part, odd_deeds(first, second))
    return road


def is_odd_road(one, other, value):
    """Return whether any object is a road that leads from a company to another one."""
    check_two(one, other)
    return does_lead(one, other, ODD, value)


def oddly_bound(company):
    """Return the pairs that are friends in every company joined with it, and those that are in none."""
    check_company(company)
    parts = parts_in(company)
    lone = [part for part in parts if mark_of_part(company, part) == "lone"]
    moving = [part for part in parts if part not in lone]
    pairs = all_pairs(company.people())
    bound = [pair for pair in pairs if not any([is_pair_of(part, pair) for part in moving])]
    friends = company.friends()
    return [pair for pair in bound if pair in friends], [pair for pair in bound if pair not in friends]
