"""Ways from one grid to another one: by search for two people or two clubs, by way of the fewest members otherwise."""

from evenfriends.clubroads import exchanged_places, home_places
from evenfriends.grids import all_places, grid_behind, is_free, member_number, member_places
from evenfriends.rows import members


def is_narrow(grid, wide):
    """Tell whether there are at most two people, or at most two clubs."""
    return len(grid) < 3 or wide < 3


def widened_grids(found, layer, wide):
    """Add the grids one change behind some grids to the ways that were found, and return the list of the new ones."""
    newer = []
    for state in layer:
        for place in all_places(state, wide):
            behind = tuple(grid_behind(state, [place]))
            if behind not in found and is_free(state, place):
                found[behind] = found[state] + [place]
                newer.append(behind)
    return newer


def searched_way(grid, wide, goal):
    """Return the fewest places that lead from a grid to another one that is joined with it."""
    layer = [tuple(grid)]
    found = {layer[0]: []}
    while tuple(goal) not in found:
        layer = widened_grids(found, layer, wide)
    return found[tuple(goal)]


def searched_home(grid, wide, fewest):
    """Return the fewest places that lead from a grid to one with as few members as are told."""
    layer = [tuple(grid)]
    found = {layer[0]: []}
    while not any([member_number(state) == fewest for state in layer]):
        layer = widened_grids(found, layer, wide)
    return [found[state] for state in layer if member_number(state) == fewest][0]


def home_way(grid, wide, fewest):
    """Return places that lead from a grid to one of its class with as few members as can be, which are told."""
    if is_narrow(grid, wide):
        return searched_home(grid, wide, fewest)
    places, _ = home_places(grid, wide, fewest)
    return places


def corners_of(grid):
    """Return the people and the clubs of a grid whose members are one square alone."""
    people = [at for at, row in enumerate(grid) if row != 0]
    return people, members(grid[people[0]])


def club_moves(people, clubs, others):
    """Return places that lead a square from two clubs to two other ones, perhaps not all others."""
    leaving = [club for club in clubs if club not in others]
    coming = [club for club in others if club not in clubs]
    first, second = people
    places = []
    for gone, newer in zip(leaving, coming):
        places += [(first, newer), (second, newer), (first, gone), (second, gone)]
    return places


def square_way(grid, goal):
    """Return places that lead from a grid of one square alone to another such one."""
    people, clubs = corners_of(grid)
    others, goal_clubs = corners_of(goal)
    return club_moves(people, clubs, goal_clubs) + exchanged_places(club_moves(goal_clubs, people, others))


def way_between(grid, wide, goal, fewest):
    """Return places that lead from a grid to another one of its class, of which the fewest members are told."""
    if is_narrow(grid, wide):
        return searched_way(grid, wide, goal)
    if list(grid) == list(goal):
        return []
    there, least = home_places(grid, wide, fewest)
    back, other = home_places(goal, wide, fewest)
    middle = [] if len(member_places(least)) == 0 else square_way(least, other)
    return there + middle + list(reversed(back))
