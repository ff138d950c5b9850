"""The rows of deeds of point [100], for three people and three clubs or more, that make members fewer.

Each function here looks for one of them in a grid, and returns its places, none if it is not there. They are asked in
order, each also with people and clubs exchanged: each one rests on it that those ahead of it are not there.
"""

from itertools import combinations

from evenfriends.grids import all_places, club_members, grid_behind, is_free, is_member, member_number, member_places
from evenfriends.grids import squares_at, turned_over
from evenfriends.rows import members, ones


def one_taken_out(grid, _):
    """A member that is let."""
    for place in member_places(grid):
        if is_free(grid, place):
            return [place]
    return []


def opposite_places(grid, place):
    """Return the members opposite to a place, which is none itself, in the squares that it would make."""
    one, club = place
    return [(other, at) for other in members(club_members(grid, club)) for at in members(grid[other] & grid[one])]


def open_places(grid, wide):
    """Return the list of the places that are no members, are let, and have squares through them."""
    empty = [place for place in all_places(grid, wide) if not is_member(grid, place)]
    return [place for place in empty if squares_at(grid, place) > 0 and is_free(grid, place)]


def two_opposite(grid, wide):
    """Two members opposite to a place whose two other places are not both members."""
    for place in open_places(grid, wide):
        around = opposite_places(grid, place)
        for (a, d), (b, e) in combinations(around, 2):
            # Of one person, or of one club, the two other places would be the same ones.
            if not (is_member(grid, (a, e)) and is_member(grid, (b, d))):
                return [place, (a, d), (b, e)]
    return []


def odd_block(grid, wide):
    """Members opposite to a place who are all of some people by some clubs, together an odd number."""
    for place in open_places(grid, wide):
        around = opposite_places(grid, place)
        people, clubs = {a: True for a, _ in around}, {d: True for _, d in around}
        if (len(people) + len(clubs)) % 2 == 1:
            a, d = around[0]
            return [place, (a, d), (place[0], d)]
    return []


def even_clubs(grid, wide):
    """Two clubs of members opposite to a place that share an even number of people who are apart from it."""
    for i, j in open_places(grid, wide):
        apart = ~(club_members(grid, j) | (1 << i))
        around = opposite_places(grid, (i, j))
        for (a, d), (b, e) in combinations(around, 2):
            if a == b and ones(club_members(grid, d) & club_members(grid, e) & apart) % 2 == 0:
                return [(i, j), (a, d), (a, e)]
    return []


def person_apart(grid, wide):
    """A person of a club of a member opposite to a place, apart from it, who shares another club with that member."""
    for i, j in open_places(grid, wide):
        apart = ~(club_members(grid, j) | (1 << i))
        for a, d in opposite_places(grid, (i, j)):
            for x in members(club_members(grid, d) & apart):
                shared = members(grid[a] & grid[x] & ~(1 << d))
                if len(shared) > 0:
                    return [(i, j), (a, d), (x, shared[0])]
    return []


def clubs_of(grid, people):
    """Return the bits of the clubs of which somebody of some people, as bits, is a member."""
    found = 0
    for at in members(people):
        found |= grid[at]
    return found


def people_in(grid, clubs):
    """Return the bits of the people who are members of some of some clubs, as bits."""
    return sum([1 << at for at, row in enumerate(grid) if row & clubs != 0])


def long_row(grid, wide):
    """A person and a club with a shortest row of five members from one to the other."""
    for i, d in member_places(grid):
        near = people_in(grid, grid[i])
        for a in members(club_members(grid, d)):
            for e in members(grid[a] & ~grid[i]):
                for b in members(club_members(grid, e) & ~near):
                    far = members(grid[b] & ~clubs_of(grid, near))
                    if len(far) > 0:
                        return [(i, far[0]), (b, d), (i, d), (i, far[0]), (a, e)]
    return []


def tied_people(grid, one):
    """Return the bits of the people who are tied to a person by rows of members."""
    found = 0
    newer = 1 << one
    while newer & ~found != 0:
        found |= newer
        newer = people_in(grid, clubs_of(grid, found))
    return found


def moves_at(grid, wide, i, a):
    """Return the moves of two people from a club that they share to one that nobody tied to them has."""
    shared = members(grid[i] & grid[a])
    away = [j for j in range(wide) if (clubs_of(grid, tied_people(grid, i)) >> j) & 1 == 0]
    moves = []
    for d in shared if len(shared) % 2 == 0 else []:
        for j in away:
            if ones(club_members(grid, d)) > 2 or club_members(grid, j) != 0:
                moves.append([(i, j), (a, j), (i, d), (a, d)])
    return moves


def moves_of(grid, wide):
    """Return the list of all moves that leave as many members."""
    return [move for i, a in combinations(range(len(grid)), 2) for move in moves_at(grid, wide, i, a)]


def four_alike(grid, _):
    """Two people who share four clubs, and a third one without any."""
    lots = [x for x, row in enumerate(grid) if row == 0]
    for i, a in combinations(range(len(grid)), 2):
        if grid[i] == grid[a] and ones(grid[i]) == 4 and len(lots) > 0:
            x = lots[0]
            c1, c2, c3, c4 = members(grid[i])
            first = [(x, c1), (x, c2), (i, c1), (i, c2), (x, c3), (a, c1), (x, c1), (a, c3), (x, c2), (a, c2)]
            return first + [(a, c4), (i, c4), (i, c3), (x, c3)]
    return []


RULES = (one_taken_out, two_opposite, odd_block, even_clubs, person_apart, long_row)


def exchanged_places(places):
    """Return places with people and clubs exchanged."""
    return [(club, one) for one, club in places]


def places_by(rule, grid, wide):
    """Return the places of a row of deeds, there or with people and clubs exchanged, none if it is in neither."""
    places = rule(grid, wide)
    return places if len(places) > 0 else exchanged_places(rule(turned_over(grid, wide), len(grid)))


def lessening_places(grid, wide):
    """Return places behind which there are fewer members, by the rules that need no move ahead of them."""
    for rule in RULES:
        places = places_by(rule, grid, wide)
        if len(places) > 0:
            return places
    return []


def all_moves(grid, wide):
    """Return the list of all moves, those with people and clubs exchanged, too."""
    over = moves_of(turned_over(grid, wide), len(grid))
    return moves_of(grid, wide) + [exchanged_places(move) for move in over]


def moved_and_lessened(grid, wide):
    """Return the fewest moves, and behind them places that make members fewer, none if no moves bring such ones."""
    found = {tuple(grid): []}
    layer = [tuple(grid)]
    while len(layer) > 0:
        newer = []
        for state in layer:
            places = lessening_places(state, wide)
            if len(places) > 0:
                return found[state] + places
            for move in all_moves(state, wide):
                behind = tuple(grid_behind(state, move))
                if behind not in found:
                    found[behind] = found[state] + move
                    newer.append(behind)
        layer = newer
    return []


def fewer_places(grid, wide):
    """Return places behind which there are fewer members."""
    places = moved_and_lessened(grid, wide)
    return places if len(places) > 0 else places_by(four_alike, grid, wide)


def home_places(grid, wide, fewest):
    """Return places behind which there are as few members as are told to be reached, and the grid there."""
    made = []
    now = list(grid)
    while member_number(now) > fewest:
        places = fewer_places(now, wide)
        made += places
        now = grid_behind(now, places)
    return made, now
