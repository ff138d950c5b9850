"""The errors that the package raises; a field holds the thing that was wrong."""


class FriendError(ValueError):
    """What all errors of the package are derived from."""


class InvalidPerson(FriendError):
    """An argument that has to be a person, perhaps a known one or a new one, is none."""

    def __init__(self, value=None):
        self.value = value


class InvalidPeople(FriendError):
    """An argument that has to be a list of people is none."""

    def __init__(self, value=None):
        self.value = value


class InvalidPair(FriendError):
    """An argument that has to be a pair is none."""

    def __init__(self, value=None):
        self.value = value


class InvalidPairs(FriendError):
    """An argument that has to be a list of pairs is none."""

    def __init__(self, value=None):
        self.value = value


class InvalidCompany(FriendError):
    """An argument that has to be a company is none."""

    def __init__(self, value=None):
        self.value = value


class InvalidCompanies(FriendError):
    """An argument that has to be a list of companies is none."""

    def __init__(self, value=None):
        self.value = value


class InvalidChange(FriendError):
    """A change does not fit."""

    def __init__(self, value=None):
        self.value = value


class InvalidChanges(FriendError):
    """An argument that has to be a list of changes is none."""

    def __init__(self, value=None):
        self.value = value


class InvalidNames(FriendError):
    """An argument that has to be new names is none."""

    def __init__(self, value=None):
        self.value = value


class InvalidManner(FriendError):
    """An argument that has to be a manner is none."""

    def __init__(self, value=None):
        self.value = value


class InvalidManners(FriendError):
    """An argument that has to be a list of manners is none."""

    def __init__(self, value=None):
        self.value = value


class InvalidTally(FriendError):
    """An argument that has to be a tally is none."""

    def __init__(self, value=None):
        self.value = value


class InvalidRoad(FriendError):
    """An argument that has to be a road is none."""

    def __init__(self, value=None):
        self.value = value


class InvalidLabels(FriendError):
    """An argument that has to be labels is none."""

    def __init__(self, value=None):
        self.value = value


class InvalidWishes(FriendError):
    """An argument that has to be wishes is none."""

    def __init__(self, value=None):
        self.value = value


class InvalidCount(FriendError):
    """An argument that has to be a count, perhaps within bounds, is none."""

    def __init__(self, value=None):
        self.value = value


class InvalidTable(FriendError):
    """An argument that has to be a table is none."""

    def __init__(self, value=None):
        self.value = value


class InvalidClub(FriendError):
    """An argument that has to be a club, or a list of clubs, is none."""

    def __init__(self, value=None):
        self.value = value


class InvalidPlace(FriendError):
    """An argument that has to be a place of a table, or a list of places, is none."""

    def __init__(self, value=None):
        self.value = value


class InvalidHouse(FriendError):
    """An argument that has to be a house is none."""

    def __init__(self, value=None):
        self.value = value


class InvalidSpot(FriendError):
    """An argument that has to be a spot of a house is none."""

    def __init__(self, value=None):
        self.value = value


class InvalidScript(FriendError):
    """An argument that has to be a script is none."""

    def __init__(self, value=None):
        self.value = value


class InvalidText(FriendError):
    """An argument that has to be a text that a writer makes is none."""

    def __init__(self, value=None):
        self.value = value


class InvalidLog(FriendError):
    """An argument that has to be a log is none."""

    def __init__(self, value=None):
        self.value = value


class Unlike(FriendError):
    """A company that has to have the people of an elder one has not."""

    def __init__(self, value=None):
        self.value = value


class Apart(FriendError):
    """A company that has to be joined with an elder one is not."""

    def __init__(self, value=None):
        self.value = value


class Refused(FriendError):
    """A command of a house cannot be taken."""

    def __init__(self, value=None):
        self.value = value


class NothingToUndo(FriendError):
    """No command is left that could be taken back."""


class NothingToRedo(FriendError):
    """No command was taken back that could be made again."""
