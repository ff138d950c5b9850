"""A house of companies whose deeds are let by manners, with wishes, and with commands that can be taken back."""

from evenfriends.anyway import are_joined
from evenfriends.commands import carry_out, command_anew, has_form
from evenfriends.companies import Company, check_company, check_pair_of, check_person_of, is_person, kept_among, turned
from evenfriends.errors import Apart, InvalidHouse, InvalidLog, InvalidPerson, InvalidSpot, NothingToRedo
from evenfriends.errors import NothingToUndo, Refused, Unlike
from evenfriends.evenroads import EVEN
from evenfriends.forms import is_count
from evenfriends.manners import check_manner, is_pair_let, pairs_let
from evenfriends.oddroads import ODD
from evenfriends.reaches import can_be_met, road_to_wishes
from evenfriends.roads import end_of_road, is_road_at
from evenfriends.ties import TIES_EVEN, TIES_ODD
from evenfriends.wishforms import check_wishes, does_meet, wishes_in_order


class Trial:
    """A block: when it is left, its house is as it was when it was entered."""

    def __init__(self, house):
        self._house = house
        self._state = None
        self._past = None
        self._later = None

    def __enter__(self):
        self._state = self._house._state
        self._past = self._house._past
        self._later = self._house._later
        return self._house

    def __exit__(self, kind, value, trace):
        house = self._house
        house._state = self._state
        house._past = self._past
        house._later = self._later


class House:
    """Spots, each with a company, a manner and perhaps wishes.

    The state is a tuple of the least count that no spot has had and a dictionary from the spots to the tuples of what
    is there. States never change, so that those ahead of the commands can be kept: with the commands that were made,
    and with those that were taken back, which also keep the state behind them.
    """

    def __init__(self):
        self._state = (0, {})
        self._past = ()
        self._later = ()

    def put(self, company, manner):
        """Put a company under a manner, and return the spot where it is."""
        check_company(company)
        check_manner(manner)
        spot, rooms = self._state
        self._make(("put", company, manner), (spot + 1, with_room(rooms, spot, (company, manner, None))))
        return spot

    def take(self, spot):
        """Take the company at a spot, its manner and its wishes away."""
        self._room(spot)
        count, rooms = self._state
        self._make(("take", spot), (count, {other: rooms[other] for other in rooms if other != spot}))

    def spots(self):
        """Return the ascending list of the spots."""
        return sorted(self._state[1])

    def company_there(self, spot):
        """Return the company at a spot."""
        return self._room(spot)[0]

    def manner_there(self, spot):
        """Return the manner at a spot."""
        return self._room(spot)[1]

    def wishes_there(self, spot):
        """Return the wishes at a spot, their pairs ascending, None if there are none."""
        _, _, wishes = self._room(spot)
        return None if wishes is None else wishes_in_order(wishes)

    def deed(self, spot, pair):
        """Make two people friends, or strangers, and return whether they are friends now."""
        company, manner, wishes = self._room(spot)
        check_pair_of(company, pair)
        if not is_pair_let(company, manner, pair):
            raise Refused(pair)
        behind = turned(company, pair)
        self._make_at(("deed", spot, pair), spot, (behind, manner, wishes))
        return pair in behind.friends()

    def lets(self, spot):
        """Return the ascending list of the pairs that are let at a spot."""
        company, manner, _ = self._room(spot)
        return pairs_let(company, manner)

    def wish(self, spot, wishes):
        """Give a spot wishes that can be met from there."""
        company, manner, _ = self._room(spot)
        check_wishes(company.people(), wishes)
        if not can_be_met(company, manner, wishes):
            raise Refused(wishes)
        ordered = wishes_in_order(wishes)
        self._make_at(("wish", spot, ordered), spot, (company, manner, ordered))

    def unwish(self, spot):
        """Take the wishes at a spot away."""
        company, manner, wishes = self._room(spot)
        if wishes is None:
            raise Refused(spot)
        self._make_at(("unwish", spot), spot, (company, manner, None))

    def is_met(self, spot):
        """Return whether the company at a spot meets its wishes now."""
        company, _, wishes = self._room(spot)
        return wishes is None or does_meet(company, wishes)

    def way(self, spot):
        """Return a road that leads from the company at a spot to one that meets the wishes."""
        company, manner, wishes = self._room(spot)
        return [] if wishes is None else road_to_wishes(company, manner, wishes)

    def is_way(self, spot, value):
        """Return whether any object is a road from the company at a spot to one that meets the wishes."""
        company, manner, wishes = self._room(spot)
        if not is_road_at(company, manner, value):
            return False
        return wishes is None or does_meet(end_of_road(company, value), wishes)

    def guest(self, spot, person):
        """Let a person come to a spot who is a friend of nobody."""
        company, manner, wishes = self._room(spot)
        people = company.people()
        if not is_person(person) or person in people:
            raise InvalidPerson(person)
        behind = Company(people + [person], company.friends())
        if not can_be_met(behind, manner, wishes):
            raise Refused(person)
        self._make_at(("guest", spot, person), spot, (behind, manner, wishes))

    def leave(self, spot, person):
        """Let a person go from a spot who is a friend of nobody."""
        company, manner, wishes = self._room(spot)
        check_person_of(company, person)
        others = [other for other in company.people() if other != person]
        if len(others) == 0 or stands_in(person, company.friends()) or stands_in(person, list(wishes or {})):
            raise Refused(person)
        behind = kept_among(company, others)
        if not can_be_met(behind, manner, wishes):
            raise Refused(person)
        self._make_at(("leave", spot, person), spot, (behind, manner, wishes))

    def exchange(self, spot, company):
        """Put a company that is joined with the one at a spot in its place."""
        there, manner, wishes = self._room(spot)
        check_company(company)
        check_joined(there, company, manner)
        self._make_at(("exchange", spot, company), spot, (company, manner, wishes))

    def to_manner(self, spot, manner):
        """Put a manner in the place of the one at a spot."""
        company, _, wishes = self._room(spot)
        check_manner(manner)
        if not can_be_met(company, manner, wishes):
            raise Refused(manner)
        self._make_at(("to_manner", spot, manner), spot, (company, manner, wishes))

    def manners_for(self, spot, company):
        """Return the ascending list of the common and tie manners under which a company is joined with that there."""
        there, _, _ = self._room(spot)
        check_company(company)
        if company.people() != there.people():
            raise Unlike(company)
        return [manner for manner in (TIES_EVEN, TIES_ODD, EVEN, ODD) if are_joined(there, company, manner)]

    def joined_spots(self, spot):
        """Return the ascending list of the other spots whose companies are joined with the one at a spot."""
        company, manner, _ = self._room(spot)
        rooms = self._state[1]
        alike = [at for at in sorted(rooms) if at != spot and rooms[at][0].people() == company.people()]
        return [at for at in alike if are_joined(company, rooms[at][0], manner)]

    def swap(self, spot, other):
        """Let two spots change their companies, manners and wishes staying where they are."""
        company, manner, wishes = self._room(spot)
        newer, other_manner, other_wishes = self._room(other)
        if other == spot:
            raise InvalidSpot(other)
        check_joined(company, newer, manner)
        if not are_joined(company, newer, other_manner):
            raise Refused(other)
        count, rooms = self._state
        swapped = with_room(rooms, spot, (newer, manner, wishes))
        state = (count, with_room(swapped, other, (company, other_manner, other_wishes)))
        self._make(("swap", spot, other), state)

    def undo(self):
        """Take back the last command."""
        if len(self._past) == 0:
            raise NothingToUndo()
        command, before = self._past[-1]
        self._past = self._past[:-1]
        self._later = self._later + ((command, self._state),)
        self._state = before

    def redo(self):
        """Make the command that was taken back last again."""
        if len(self._later) == 0:
            raise NothingToRedo()
        command, behind = self._later[-1]
        self._later = self._later[:-1]
        self._past = self._past + ((command, self._state),)
        self._state = behind

    def trial(self):
        """Return a block at whose end the house is as it was when the block was entered."""
        return Trial(self)

    def attempt(self, action):
        """Call a function with the house in such a block, and return what it returns."""
        with self.trial():
            return action(self)

    def copy(self):
        """Return an independent house that is the same in everything that its methods tell."""
        other = House()
        other._state = self._state
        other._past = self._past
        other._later = self._later
        return other

    def log(self):
        """Return the list of the commands that are not taken back, the eldest first."""
        return [command_anew(command) for command, _ in self._past]

    def _room(self, spot):
        """Return the tuple of what is at a spot."""
        rooms = self._state[1]
        if not is_count(spot) or spot not in rooms:
            raise InvalidSpot(spot)
        return rooms[spot]

    def _make(self, command, state):
        """Make a command, behind which there is a new state."""
        self._past = self._past + ((command, self._state),)
        self._later = ()
        self._state = state

    def _make_at(self, command, spot, room):
        """Make a command behind which there is something else at a spot."""
        count, rooms = self._state
        self._make(command, (count, with_room(rooms, spot, room)))


def with_room(rooms, spot, room):
    """Return a dictionary of rooms with one in the place of what was at a spot."""
    made = {other: rooms[other] for other in rooms}
    made[spot] = room
    return made


def stands_in(person, pairs):
    """Tell whether a person is in one of some pairs."""
    return any([person in pair for pair in pairs])


def check_joined(one, other, manner):
    """Raise Unlike unless two companies are of the same people, and then Apart unless they are joined."""
    if one.people() != other.people():
        raise Unlike(other)
    if not are_joined(one, other, manner):
        raise Apart(other)


def check_house(house):
    """Raise InvalidHouse unless any object is a house."""
    if not isinstance(house, House):
        raise InvalidHouse(house)


def replayed(house, log):
    """Return a copy of a house on which the commands of a log were made."""
    check_house(house)
    if not isinstance(log, list) or not all([has_form(command) for command in log]):
        raise InvalidLog(log)
    made = house.copy()
    for command in log:
        carry_out(made, command)
    return made
