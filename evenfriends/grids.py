"""Tables as rows of bits, and which places are let there.

People and clubs are told by their places in the ascending lists; bit j of the row at i tells whether the person at i is
a member of the club at j. A grid is a list or a tuple of such rows, and a place is a tuple of both.
"""

from evenfriends.rows import bits_of, members, ones


def is_member(grid, place):
    """Tell whether a place is a member."""
    one, club = place
    return (grid[one] >> club) & 1 == 1


def all_places(grid, wide):
    """Return the ascending list of all places of a grid with so many clubs."""
    return [(one, club) for one in range(len(grid)) for club in range(wide)]


def member_places(grid):
    """Return the ascending list of the places that are members."""
    return [(one, club) for one, row in enumerate(grid) for club in members(row)]


def member_number(grid):
    """Return how many places are members."""
    return sum([ones(row) for row in grid])


def squares_number(grid):
    """Return how many squares there are."""
    shared = [ones(row & later) for at, row in enumerate(grid) for later in grid[at + 1:]]
    return sum([number * (number - 1) // 2 for number in shared])


def squares_at(grid, place):
    """Return with how many pairs of another person and another club a place makes a square, or would make one."""
    one, club = place
    others = [row for at, row in enumerate(grid) if at != one and (row >> club) & 1 == 1]
    return sum([ones(row & grid[one] & ~(1 << club)) for row in others])


def is_free(grid, place):
    """Tell whether a place is let."""
    return squares_at(grid, place) % 2 == 0


def turn_place(grid, place):
    """Change a list of rows at a place."""
    one, club = place
    grid[one] ^= 1 << club


def grid_behind(grid, places):
    """Return the list of the rows behind changes at some places."""
    made = list(grid)
    for place in places:
        turn_place(made, place)
    return made


def club_members(grid, club):
    """Return the bits of the people who are members of a club."""
    return bits_of([at for at, row in enumerate(grid) if (row >> club) & 1 == 1])


def turned_over(grid, wide):
    """Return the grid in which people and clubs are exchanged."""
    return [club_members(grid, club) for club in range(wide)]


def are_free(grid, places):
    """Tell whether each of some places is let where those ahead of it were changed."""
    now = list(grid)
    for place in places:
        if not is_free(now, place):
            return False
        turn_place(now, place)
    return True
