"""Tables of people and clubs, in which a place changes where it makes an even number of squares."""

from evenfriends.companies import are_people
from evenfriends.errors import InvalidClub, InvalidPeople, InvalidPerson, InvalidPlace, InvalidRoad, InvalidTable
from evenfriends.errors import Unlike
from evenfriends.forms import are_unlike, is_word
from evenfriends.grids import all_places, are_free, club_members, grid_behind, is_free, member_places, squares_at
from evenfriends.grids import squares_number
from evenfriends.gridways import home_way, way_between
from evenfriends.rows import ones


class Table:
    """Some people and some clubs, and who is a member of which; it never changes."""

    def __init__(self, people, clubs, members):
        if not are_people(people):
            raise InvalidPeople(people)
        if not are_people(clubs):
            raise InvalidClub(clubs)
        if not are_places_of(people, clubs, members) or not are_unlike(members):
            raise InvalidPlace(members)
        self._people = sorted(people)
        self._clubs = sorted(clubs)
        self._members = sorted(members)

    def people(self):
        """Return the list of the people, ascending."""
        return list(self._people)

    def clubs(self):
        """Return the list of the clubs, ascending."""
        return list(self._clubs)

    def members(self):
        """Return the list of the places that are members, ascending."""
        return list(self._members)

    def __eq__(self, other):
        if not isinstance(other, Table):
            return False
        return self._people == other._people and self._clubs == other._clubs and self._members == other._members


def is_place_of(people, clubs, value):
    """Tell whether any object is a place of some people and some clubs."""
    return isinstance(value, tuple) and len(value) == 2 and value[0] in people and value[1] in clubs


def are_places_of(people, clubs, value):
    """Tell whether any object is a list of places of some people and some clubs, perhaps with doubles."""
    return isinstance(value, list) and all([is_place_of(people, clubs, place) for place in value])


def check_table(table):
    """Raise InvalidTable unless any object is a table."""
    if not isinstance(table, Table):
        raise InvalidTable(table)


def is_like(table, value):
    """Tell whether any object is a table of the people and clubs of a table."""
    return isinstance(value, Table) and value.people() == table.people() and value.clubs() == table.clubs()


def check_tables(one, other):
    """Raise InvalidTable unless both are tables, and then Unlike unless they are of the same people and clubs."""
    check_table(one)
    check_table(other)
    if not is_like(one, other):
        raise Unlike(other)


def check_place(table, place):
    """Raise InvalidPlace unless any object is a place of a table."""
    if not is_place_of(table.people(), table.clubs(), place):
        raise InvalidPlace(place)


def numbered(table, places):
    """Return places of a table as tuples of positions among its people and its clubs."""
    people = {person: at for at, person in enumerate(table.people())}
    clubs = {club: at for at, club in enumerate(table.clubs())}
    return [(people[person], clubs[club]) for person, club in places]


def named(table, places):
    """Return tuples of positions among the people and the clubs of a table as its places."""
    people, clubs = table.people(), table.clubs()
    return [(people[one], clubs[club]) for one, club in places]


def grid_of(table):
    """Return the rows of bits of a table."""
    return grid_behind([0] * len(table.people()), numbered(table, table.members()))


def table_of(table, grid):
    """Return the table of the people and clubs of a table with rows of bits."""
    return Table(table.people(), table.clubs(), named(table, member_places(grid)))


def free_places(table):
    """Return the ascending list of the places that are let."""
    grid = grid_of(table)
    return named(table, [place for place in all_places(grid, len(table.clubs())) if is_free(grid, place)])


def squares_of(table):
    """Return the number of squares."""
    check_table(table)
    return squares_number(grid_of(table))


def squares_through(table, place):
    """Return with how many pairs of another person and another club a place makes, or would make, a square."""
    check_table(table)
    check_place(table, place)
    return squares_at(grid_of(table), numbered(table, [place])[0])


def let_places(table):
    """Return the ascending list of the places that are let."""
    check_table(table)
    return free_places(table)


def moved(table, place):
    """Return the table in which a place that is let is a member if it was none, and none if it was one."""
    check_table(table)
    if place not in free_places(table):
        raise InvalidPlace(place)
    return table_of(table, grid_behind(grid_of(table), numbered(table, [place])))


def is_road_from(table, value):
    """Tell whether any object is a list of places, each let in the table that those ahead of it made."""
    if not are_places_of(table.people(), table.clubs(), value):
        return False
    return are_free(grid_of(table), numbered(table, value))


def behind_places(table, places):
    """Return the table behind a road."""
    return table_of(table, grid_behind(grid_of(table), numbered(table, places)))


def table_behind(table, places):
    """Return the table to which a road leads."""
    check_table(table)
    if not is_road_from(table, places):
        raise InvalidRoad(places)
    return behind_places(table, places)


def is_club_road(one, other, value):
    """Return whether any object is a road from a table to another one."""
    check_tables(one, other)
    return is_road_from(one, value) and behind_places(one, value) == other


def is_lone_table(table):
    """Return whether no place is let."""
    check_table(table)
    return free_places(table) == []


def some_let_place(table):
    """Return the first place that is let, None if there is none."""
    check_table(table)
    places = free_places(table)
    return places[0] if len(places) > 0 else None


def check_lists(people, clubs):
    """Raise an error unless these are lists, not empty, of unlike people and of unlike clubs."""
    if not are_people(people):
        raise InvalidPeople(people)
    if not are_people(clubs):
        raise InvalidClub(clubs)


def all_lone(people, clubs):
    """Return the list of all lone tables of some people and clubs, ascending by their members."""
    wide = len(clubs)
    grids = [[]]
    for _ in people:
        grids = [grid + [row] for grid in grids for row in range(1 << wide)]
    lone = [grid for grid in grids if not any([is_free(grid, place) for place in all_places(grid, wide)])]
    bare = Table(people, clubs, [])
    lots = sorted([named(bare, member_places(grid)) for grid in lone])
    return [Table(people, clubs, lot) for lot in lots]


def lone_tables(people, clubs):
    """Return the list of all lone tables of some people and clubs, ascending by their members."""
    check_lists(people, clubs)
    return all_lone(people, clubs)


def shared_number(grid):
    """Return how many clubs two people share, or, of more people, how many people the first two clubs share."""
    if len(grid) == 2:
        return ones(grid[0] & grid[1])
    return ones(club_members(grid, 0) & club_members(grid, 1))


def mark_of(table):
    """Return the mark of a table."""
    if free_places(table) == []:
        return ("lone", table.members())
    least = min(len(table.people()), len(table.clubs()))
    if least == 1:
        return ("free", 0)
    if least == 2:
        return ("shared", shared_number(grid_of(table)) // 2)
    return ("squares", squares_number(grid_of(table)) % 2)


def mark(table):
    """Return the mark of a table."""
    check_table(table)
    return mark_of(table)


def are_joined(one, other):
    """Return whether two tables are joined."""
    check_tables(one, other)
    return mark_of(one) == mark_of(other)


def least_members(table):
    """Return as few members as a table joined with a table has."""
    word, told = mark_of(table)
    if word == "lone":
        return told
    people, clubs = table.people(), table.clubs()
    # Squares side by side, as many as are told: of three people and three clubs or more that is one, or none.
    if len(people) == 2:
        return [(person, club) for person in people for club in clubs[:2 * told]]
    return [(person, club) for person in people[:2 * told] for club in clubs[:2]]


def fewest_members(table):
    """Return the least number of members of a table that is joined with a table."""
    check_table(table)
    return len(least_members(table))


def least_table(table):
    """Return a table with so few members that is joined with a table."""
    check_table(table)
    return Table(table.people(), table.clubs(), least_members(table))


def is_least_table(table, value):
    """Return whether any object is a table with so few members that is joined with a table."""
    check_table(table)
    if not is_like(table, value) or mark_of(table) != mark_of(value):
        return False
    return len(value.members()) == len(least_members(table))


def club_road(one, other):
    """Return a road from a table to another one, None if they are not joined."""
    check_tables(one, other)
    if mark_of(one) != mark_of(other):
        return None
    return named(one, way_between(grid_of(one), len(one.clubs()), grid_of(other), len(least_members(one))))


def home_road(table):
    """Return a road from a table to one with as few members as can be."""
    check_table(table)
    return named(table, home_way(grid_of(table), len(table.clubs()), len(least_members(table))))


def many_classes(people, clubs):
    """Return how many classes of joined tables some people and clubs have."""
    check_lists(people, clubs)
    least, most = sorted([len(people), len(clubs)])
    if least == 1:
        return 1
    if least == 2:
        # A half for each even number that can be shared; where all are shared, that is the lone one.
        return most // 2 + 1
    return 2 + len(all_lone(people, clubs))


def with_club(table, club):
    """Return the table with one club more, which has no members."""
    check_table(table)
    if not is_word(club) or club in table.clubs():
        raise InvalidClub(club)
    return Table(table.people(), table.clubs() + [club], table.members())


def with_person(table, person):
    """Return the table with one person more, who is in no club."""
    check_table(table)
    if not is_word(person) or person in table.people():
        raise InvalidPerson(person)
    return Table(table.people() + [person], table.clubs(), table.members())
