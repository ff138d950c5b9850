"""Texts of companies, changes, roads, wishes and tables, and readers who take just the texts that are written."""

from evenfriends.clubs import Table, are_places_of, check_table
from evenfriends.companies import Company, are_pairs_of, are_people, check_company, is_change, is_pair
from evenfriends.errors import InvalidChange, InvalidCompanies, InvalidRoad, InvalidText, InvalidWishes
from evenfriends.forms import are_unlike
from evenfriends.wishforms import is_wishes, wishes_in_order

WISH_WORDS = ("strangers", "friends")


def check_text(text):
    """Raise InvalidText unless any object is a string."""
    if not isinstance(text, str):
        raise InvalidText(text)


def lines_in(text):
    """Return the list of the lines of a text, none of an empty one."""
    return [] if text == "" else text.split("\n")


def pieces_in(lines):
    """Return the list of the tuples of the pieces of some lines."""
    return [tuple(line.split(" ")) for line in lines]


def company_lines(company):
    """Return the lines of a company: the people, and each pair of friends."""
    return [" ".join(company.people())] + [" ".join(pair) for pair in company.friends()]


def company_from(lines):
    """Return the company that some lines, however written, tell of, None if they tell of none."""
    if len(lines) == 0:
        return None
    people = lines[0].split(" ")
    friends = pieces_in(lines[1:])
    if not are_people(people) or not are_pairs_of(people, friends):
        return None
    return Company(people, friends)


def company_text(company):
    """Return the text of a company."""
    check_company(company)
    return "\n".join(company_lines(company))


def read_company(text):
    """Return the company that has a text."""
    check_text(text)
    company = company_from(lines_in(text))
    # What is read may have been written otherwise, in another order.
    if company is None or company_text(company) != text:
        raise InvalidText(text)
    return company


def companies_text(companies):
    """Return the texts of a list of companies, one behind the other, an empty line between two."""
    if not isinstance(companies, list) or not all([isinstance(company, Company) for company in companies]):
        raise InvalidCompanies(companies)
    return "\n\n".join([company_text(company) for company in companies])


def read_companies(text):
    """Return the list of companies that has a text."""
    check_text(text)
    texts = [] if text == "" else text.split("\n\n")
    companies = [company_from(lines_in(one)) for one in texts]
    if None in companies or companies_text(companies) != text:
        raise InvalidText(text)
    return companies


def change_text(change):
    """Return the line of a change."""
    if not is_change(change):
        raise InvalidChange(change)
    word, thing = change
    pieces = [thing] if isinstance(thing, str) else list(thing)
    return " ".join([word] + pieces)


def change_from(text):
    """Return the change that a line, however written, tells of, or what is none."""
    word, _, rest = text.partition(" ")
    pieces = rest.split(" ")
    return (word, pieces[0]) if word in ("come", "leave") else (word, tuple(pieces))


def read_change(text):
    """Return the change that has a text."""
    check_text(text)
    change = change_from(text)
    if not is_change(change) or change_text(change) != text:
        raise InvalidText(text)
    return change


def is_pair_list(value):
    """Tell whether any object is a list of pairs of any people, perhaps with doubles."""
    return isinstance(value, list) and all([is_pair(pair) for pair in value])


def road_text(road):
    """Return the text of a list of pairs: a line for each, in its order."""
    if not is_pair_list(road):
        raise InvalidRoad(road)
    return "\n".join([" ".join(pair) for pair in road])


def read_road(text):
    """Return the list of pairs that has a text."""
    check_text(text)
    road = pieces_in(lines_in(text))
    if not is_pair_list(road):
        raise InvalidText(text)
    return road


def wish_lines(wishes):
    """Return the lines of wishes: each pair, ascending, and what they are to be."""
    return [" ".join(pair) + " " + WISH_WORDS[int(wish)] for pair, wish in wishes_in_order(wishes).items()]


def wishes_from(lines):
    """Return the wishes that some lines, however written, tell of, None if they tell of none."""
    pieces = pieces_in(lines)
    if not all([len(line) == 3 and is_pair(line[:2]) and line[2] in WISH_WORDS for line in pieces]):
        return None
    return {(one, other): word == "friends" for one, other, word in pieces}


def wishes_text(wishes):
    """Return the text of wishes."""
    if not is_wishes(wishes):
        raise InvalidWishes(wishes)
    return "\n".join(wish_lines(wishes))


def read_wishes(text):
    """Return the wishes that have a text, their pairs ascending."""
    check_text(text)
    wishes = wishes_from(lines_in(text))
    if wishes is None or wishes_text(wishes) != text:
        raise InvalidText(text)
    return wishes


def table_text(table):
    """Return the text of a table: the people, the clubs, and each place of a member."""
    check_table(table)
    lines = [" ".join(table.people()), " ".join(table.clubs())]
    return "\n".join(lines + [" ".join(place) for place in table.members()])


def table_from(lines):
    """Return the table that some lines, however written, tell of, None if they tell of none."""
    if len(lines) < 2:
        return None
    people, clubs = lines[0].split(" "), lines[1].split(" ")
    places = pieces_in(lines[2:])
    if not are_people(people) or not are_people(clubs):
        return None
    if not are_places_of(people, clubs, places) or not are_unlike(places):
        return None
    return Table(people, clubs, places)


def read_table(text):
    """Return the table that has a text."""
    check_text(text)
    table = table_from(lines_in(text))
    if table is None or table_text(table) != text:
        raise InvalidText(text)
    return table
