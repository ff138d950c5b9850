"""Every function of the landed modules, with right arguments, and for each argument the wrong ones and their error."""

import copy
import itertools

from evenfriends import (
    anyway, clubs, companies, evens, house, lones, manners, newcomers, numbers, odds, papers, roads, scripts, ties,
    triples, wishes,
)
from evenfriends.clubs import Table
from evenfriends.companies import Company
from evenfriends.errors import (
    InvalidChange, InvalidChanges, InvalidClub, InvalidCompanies, InvalidCompany, InvalidCount, InvalidHouse,
    InvalidLabels, InvalidLog, InvalidManner, InvalidManners, InvalidNames, InvalidPair, InvalidPairs, InvalidPeople,
    InvalidPerson, InvalidPlace, InvalidRoad, InvalidScript, InvalidTable, InvalidTally, InvalidText, InvalidWishes,
)
from evenfriends.house import House
from tests import plain, support

FOUR = ["a", "b", "c", "d"]


def square():
    return Company(["d", "c", "b", "a"], [("c", "d"), ("b", "c"), ("a", "b"), ("a", "d")])


class Argument:
    """A parameter's name, right values, and the wrong ones: any objects that are not right, and near misses."""

    def __init__(self, name, error, rights, is_right, near=()):
        self.name = name
        self.error = error
        self.rights = rights
        self.is_right = is_right
        self.near = near

    def wrongs(self):
        found = [value for value in support.any_objects() if not self.is_right(value)]
        return found + [copy.deepcopy(value) for value in self.near]


class Judged(Argument):
    """A last parameter `value`: any object, no error."""

    def __init__(self, rights):
        Argument.__init__(self, "value", None, rights, lambda value: True)

    def wrongs(self):
        return []


def a_company(name="company"):
    near = [([], []), (["a", "b"], []), {"people": ["a"]}, [square()], (square(),), [["a"], []]]
    return Argument(name, InvalidCompany, [square()], support.is_company, near)


def a_second(rights):
    """The second of two companies of the same people; unlike ones are tried in tests of their own."""
    company = a_company("other")
    company.rights = rights
    return company


def a_person():
    near = ["e", "aa", "ab", "x", ["a"], ("a",), {"a": 1}]
    return Argument("person", InvalidPerson, ["a", "d"], lambda value: support.is_word(value) and value in FOUR, near)


def a_new_person():
    near = ["a", "d", "abcdefghi", "E", "e ", ["e"], ("e",)]
    return Argument(
        "person", InvalidPerson, ["e", "abcdefgh"], lambda value: support.is_word(value) and value not in FOUR, near
    )


def a_pair():
    near = [
        ("a", "e"), ("e", "f"), ("c", "a"), ["a", "c"], ("a", "c", "d"), (("a",), "c"), ("a", ["c"]), ("a", "a"), "ac",
    ]
    return Argument("pair", InvalidPair, [("a", "b"), ("a", "c")], support.is_pair_among(FOUR), near)


def a_kind():
    return Argument("kind", InvalidCount, [0, 1, 2], support.is_number_below(3), [3, -1, (1,), [1], "1"])


def is_change(value):
    if type(value) is not tuple or len(value) != 2 or type(value[0]) is not str:
        return False
    if value[0] in ["come", "leave"]:
        return support.is_word(value[1])
    return value[0] in ["befriend", "part"] and support.is_pair(value[1])


def is_change_of_square(value):
    if not is_change(value):
        return False
    if value[0] == "come":
        return value[1] not in FOUR
    if value[0] == "leave":
        return value[1] in FOUR
    friends = value[1] in [("a", "b"), ("a", "d"), ("b", "c"), ("c", "d")]
    return support.is_pair_among(FOUR)(value[1]) and friends == (value[0] == "part")


RIGHT_CHANGES = [("come", "e"), ("leave", "c"), ("befriend", ("a", "c")), ("part", ("c", "d"))]
WRONG_FORMS = [
    ["come", "e"], ("come",), ("come", "e", "f"), ("come", ["e"]), ("come", ("a", "c")), ("come", "E"), ("go", "e"),
    ("leave", None), ("leave", ("a",)), ("befriend", "a"), ("befriend", "ac"), ("befriend", ["a", "c"]),
    ("befriend", ("c", "a")), ("befriend", ("a", "a")), ("befriend", "a", "c"), ("part", ("a", "b", "c")),
    ("Part", ("a", "b")),
    ("part", (("a",), "b")), (["part"], ("a", "b")), (("part",), ("a", "b")), (None, "e"), (True, ("a", "b")),
    ({}, "e"),
]
UNFIT = [
    ("come", "a"), ("come", "d"), ("leave", "e"), ("befriend", ("a", "b")), ("befriend", ("a", "e")),
    ("befriend", ("e", "f")),
    ("part", ("a", "c")), ("part", ("a", "e")), ("part", ("e", "f")),
]


def a_change():
    return Argument("change", InvalidChange, RIGHT_CHANGES, is_change_of_square, WRONG_FORMS + UNFIT)


def is_changes(value):
    return type(value) is list and all(is_change(one) for one in value)


def some_changes():
    right = [[], [("come", "e"), ("befriend", ("a", "e")), ("part", ("a", "b")), ("leave", "c")]]
    near = [[("come", "e"), form] for form in WRONG_FORMS] + [(("come", "e"),), ("come", "e"), {"come": "e"}]
    return Argument("changes", InvalidChanges, right, is_changes, near)


def some_people():
    near = [
        ["a", "b", "e"], ["a", "b", "a"], ("a", "b"), "ab", {"a": 1}, ["a", ["b"]], ["a", ("b",)], ["a", None], [],
        ["a", "B"],
    ]
    return Argument("people", InvalidPeople, [["c", "a"], FOUR], support.is_people_among(FOUR), near)


def free_people(name="people"):
    near = [
        ["a", "b", "a"], ("a", "b"), "ab", {"a": 1}, ["a", ["b"]], ["a", ("b",)], ["a", None], [], ["a", "B"],
        ["a", ""],
    ]
    return Argument(name, InvalidPeople, [["d", "a", "c", "b"]], support.is_people, near)


def some_friends():
    near = [
        [("a", "e")], [("b", "a")], [("a", "b"), ("a", "b")], [["a", "b"]], (("a", "b"),), {("a", "b"): True},
        [("a", "b"), None],
        [("a", "b", "c")], ("a", "b"), [("a", ["b"])], [[("a", "b")]], [("a", "b"), ("c", "c")],
    ]
    return Argument("friends", InvalidPairs, [[], [("c", "d"), ("a", "b")]], support.is_pairs_among(FOUR), near)


def is_names(value):
    return (
        type(value) is dict and len(value) == 4 and all(one in FOUR for one in value if type(one) is str)
        and all(type(one) is str for one in value) and support.is_people(list(value.values()))
    )


def some_names():
    right = [{"d": "x", "a": "b", "b": "a", "c": "abcdefgh"}, {"a": "a", "b": "b", "c": "c", "d": "d"}]
    near = [
        {"a": "x", "b": "y", "c": "z"}, {"a": "x", "b": "y", "c": "z", "d": "w", "e": "v"},
        {"a": "x", "b": "y", "c": "z", "e": "w"},
        {"a": "x", "b": "y", "c": "z", "d": "x"}, {"a": "x", "b": "y", "c": "z", "d": "X"},
        {"a": "x", "b": "y", "c": "z", "d": ["w"]},
        {"a": "x", "b": "y", "c": "z", "d": ("w",)}, {"a": "x", "b": "y", "c": "z", "d": None},
        {"a": "x", "b": "y", "c": "z", None: "w"},
        {"a": "x", "b": "y", "c": "z", ("d",): "w"}, {"a": "x", "b": "y", "c": "z", "d": {}},
        {"a": "x", "b": "y", "c": "z", 1: "w"},
        [("a", "x"), ("b", "y"), ("c", "z"), ("d", "w")], ["w", "x", "y", "z"], ("w", "x", "y", "z"),
        {"a": ["x"], "b": ["x"], "c": ["x"], "d": ["x"]}, {"a": True, "b": False, "c": 1, "d": 0},
    ]
    return Argument("names", InvalidNames, right, is_names, near)


def a_number(end):
    near = [end, end + 1, -1, (0,), "0", [0]]
    return Argument("number", InvalidCount, [0, end // 2, end - 1], support.is_number_below(end), near)


def an_other():
    company = a_company("other")
    company.rights = [Company(["z"], []), Company(["y", "x"], [("x", "y")])]
    return company


def a_manner(rights=(plain.EVEN, plain.ODD, ((), "even"), ((0, 1, 2), "odd"), ((0,), "odd")), name="manner"):
    near = [
        ((2,), "Even"), ((2,), ""), ((2,), None), ((2,), True), ((2,), ["even"]), ((2,), ("even",)), ([2], "even"),
        [(2,), "even"], (2, "even"), ((3,), "even"), ((-1,), "even"), ((2, 1), "even"), ((1, 1), "even"),
        ((True,), "even"), ((False, 2), "odd"), ((0, True), "odd"), (("2",), "even"), ((None,), "even"),
        (((2,),), "even"), ((2,),), ((2,), "even", "odd"), ("even", (2,)), ({}, "even"), ({2: 2}, "even"), "even",
        ((0, 1, 2, 3), "even"), ((2, [1]), "even"), ((10 ** 29,), "odd"), {(2,): "even"}, [((2,), "even")],
    ]
    return Argument(name, InvalidManner, list(rights), is_manner, near)


def is_manner(value):
    return support.frozen(value) in [support.frozen(manner) for manner in plain.MANNERS]


def a_word():
    near = ["Even", " odd", "odd ", ["even"], ("odd",), ((1,), "even"), {"even": "odd"}, "evenodd"]
    return Argument("word", InvalidManner, ["even", "odd"], lambda value: value in ["even", "odd"], near)


def a_number_of_people(rights=(1, 2, 3, 4, 9, 14)):
    near = [-1, [1], (1,), "1", {1: 1}]
    return Argument("many", InvalidCount, list(rights), lambda value: type(value) is int and value >= 1, near)


def number_of_people():
    argument = a_number_of_people()
    argument.name = "number"
    return argument


def a_count(name, rights):
    return Argument(name, InvalidCount, rights, lambda value: type(value) is int and value >= 0, [-1, [0], (0,), "0"])


def a_tally():
    near = [
        ([3], False), [(3,), False], ((3,), 0), ((3,), 1), ((3,), None), ((4,), True), ((-1,), True), ((3, 2), False),
        ((1, 1), False), ((True,), False), ((0, True), False), ((3,),), ((3,), False, True), (3, False),
        (((3,),), False), (("3",), False), ((3,), "False"), ({3: 3}, True), ((0, 1, 2, 3, 4), True), (False, (3,)),
        ((False, 2), True), ((3,), [True]),
    ]
    rights = [((), False), ((3,), True), ((0, 1, 2, 3), False)]
    return Argument("tally", InvalidTally, rights, is_tally, near)


def all_tallies():
    lots = [lot for size in range(5) for lot in itertools.combinations(range(4), size)]
    return sorted((lot, flag) for lot in lots for flag in [False, True])


def is_tally(value):
    return support.frozen(value) in [support.frozen(tally) for tally in all_tallies()]


def is_ascending_pairs(value):
    return support.is_pairs_among(FOUR)(value) and value == sorted(value)


def ascending_pairs():
    near = [
        [("a", "c"), ("a", "b")], [("a", "b"), ("a", "b")], (("a", "b"),), {("a", "b"): 1}, [("a", "e")], [["a", "b"]],
        [("a", "b"), ("b", "a")], [("a", "b"), None], [("a", ["b"])], [[("a", "b")]], ("a", "b"),
    ]
    rights = [[], [("a", "b"), ("a", "c"), ("c", "d")], list(itertools.combinations(FOUR, 2))]
    return Argument("pairs", InvalidPairs, rights, is_ascending_pairs, near)


def is_road_of_square(value):
    if type(value) is not list or not all(support.is_pair_among(FOUR)(one) for one in value):
        return False
    return plain.walked(square(), plain.EVEN, value) is not None


ROAD = [("a", "b"), ("c", "d"), ("a", "c"), ("a", "c")]


def a_road(rights=([], ROAD, [("a", "c"), ("a", "c"), ("b", "d")])):
    """A road at the square under common friends even."""
    near = [
        (("a", "b"),), {("a", "b"): 1}, [["a", "b"]], [("b", "a")], [("a", "e")], [("a", "b"), None], ["ab"], "ab",
        [("a", "b"), ["c", "d"]], [("a", "b", "c")], [("a", ["b"])], [[("a", "b")]], [("a", "c"), ("a", "b")],
        [("a", "b"), ("c", "d"), ("a", "c"), ("a", "c"), ("e", "f")], [("a", "c"), ("b", "d"), ("a", "d"), ("a", 1)],
    ]
    return Argument("road", InvalidRoad, list(rights), is_road_of_square, near)


def just_even():
    return a_manner([plain.EVEN])


def is_companies(value):
    return type(value) is list and all(type(one) is Company and one.people() == FOUR for one in value)


WRONG_LOTS = [
    [Company(["a", "b", "c"], [])], (Company(["a"], []),), {"a": Company(["a"], [])}, ["a"], [None],
]


def companies_like_square():
    near = WRONG_LOTS + [(square(),), [square(), None], [square(), [square()]], [square(), Company(["a"], [])]]
    return Argument("others", InvalidCompanies, [[], [square(), Company(FOUR, [])]], is_companies, near)


def is_companies_alike(value):
    if type(value) is not list or value == [] or not all(type(one) is Company for one in value):
        return False
    return all(one.people() == value[0].people() for one in value)


def companies_alike():
    near = [[square(), Company(["a", "b", "c"], [])], (square(),), [square(), None], [[square()]], {"a": square()}]
    return Argument("companies", InvalidCompanies, [[square(), Company(FOUR, []), square()]], is_companies_alike, near)


def is_ascending_people(value):
    return value == [] and type(value) is list or support.is_people_among(FOUR)(value) and value == sorted(value)


def people_of_square(name, rights, many):
    """A list of just so many people of the square, ascending but for `four`, or of any number."""
    def is_right(value):
        if name == "four":
            return support.is_people_among(FOUR)(value) and len(value) == 4
        return is_ascending_people(value) and (many is None or len(value) == many)

    near = [
        ["a", "b", "e"], ["a", "b", "b"], ("a", "b", "c"), ("a", "b", "c", "d"), "abc", ["c", "b", "a"], ["b", "a"],
        ["a", "b", "c", "e"], ["a", "b", "c", "c"], ["a", "b", ["c"]], [["a", "b", "c"]], ["a", "b", "c", None],
        {"a": 1, "b": 1, "c": 1}, ["a", "b", 3], [("a", "b")], ["a", "b", "c", "d", "e"], ["a", "b", "C"],
    ]
    return Argument(name, InvalidPeople, rights, is_right, [one for one in near if not is_right(one)])


def is_labels(value):
    if type(value) is not dict or not value or not all(support.is_word(one) for one in value):
        return False
    labels = list(value.values())
    if not all(type(label) is tuple and all(type(one) is int and one in (0, 1) for one in label) for label in labels):
        return False
    return len({len(label) for label in labels}) == 1


def some_labels(rights, is_right):
    near = [
        {"a": [0, 1]}, {"a": (0, 1), "b": (0, 1, 0)}, {"a": (0, 2)}, {"a": (0, True)}, {"a": (False, 1)}, {"a": "01"},
        {"A": (0, 1)}, {1: (0, 1)}, {("a",): (0, 1)}, {"a": (0, -1)}, {"a": ((0, 1),)}, {"a": (0, "1")}, {"a": None},
        [("a", (0, 1))], (("a", (0, 1)),), {"a": (0, 1), "b": ()}, {"a": (0, 1), None: (0, 1)}, {"a": {0: 0, 1: 1}},
        {"a": (1, 0), "b": (0,)}, {"a": (1,), "b": [1]}, {"a": 1}, {"a": (0, 1), "b": (1, [0])}, {"a": (0, None)},
    ]
    return Argument("labels", InvalidLabels, rights, is_right, near)


def crossing():
    argument = some_labels(
        [{"b": (1, 0), "a": (0, 1)}, {"a": ()}, {"d": (1, 1, 0, 1), "a": (0, 1, 1, 0), "c": (0, 0, 0, 0)}],
        lambda value: is_labels(value) and all(len(label) % 2 == 0 for label in value.values()),
    )
    argument.near += [{"a": (0,)}, {"a": (0, 1, 1)}, {"a": (1,), "b": (0,)}]
    return argument


def sharing():
    argument = some_labels(
        [{"b": (1, 0), "a": (0, 1)}, {"a": (1,)}, {"d": (1, 1, 1), "a": (0, 1, 0)}],
        lambda value: is_labels(value) and all(sum(label) % 2 for label in value.values()),
    )
    argument.near += [{"a": (0,)}, {"a": ()}, {"a": (0, 1), "b": (1, 1)}, {"a": (1, 0), "b": (0, 0)}]
    return argument


LIKE_SQUARE = [square(), Company(FOUR, []), Company(FOUR, [("a", "b"), ("a", "c"), ("b", "c")])]


def an_at():
    near = [3, 4, -1, [0], (0,), "0"]
    return Argument("at", InvalidCount, [0, 1, 2], support.is_number_below(3), near)


WRONG_MANNERS = [
    [2, "even"], (2, "even"), ([2], "even"), ((2,), "Even"), ((2,), "even", None), ((2,),), ((True,), "even"),
    ((True,), "odd"), ((2, 2), "even"), ((1, 0), "odd"), ((), ""), [((2,), "even")], {(2,): "even"},
]


def one_of_manners(rights):
    """A manner of just some ones."""
    def is_right(value):
        return support.frozen(value) in [support.frozen(manner) for manner in rights]

    near = [manner for manner in plain.MANNERS if manner not in rights] + WRONG_MANNERS
    return Argument("manner", InvalidManner, rights, is_right, near)


def even_manner():
    return one_of_manners([plain.EVEN, plain.TIES_EVEN])


def tie_manner():
    return one_of_manners([plain.TIES_ODD, plain.TIES_EVEN, ((0, 2), "even"), ((0, 2), "odd")])


def is_two_manners(value):
    if type(value) is not list or len(value) != 2 or not all(is_manner(one) for one in value):
        return False
    return value[0] < value[1]


def two_manners():
    one, other = ((1,), "odd"), ((2,), "even")
    rights = [[one, other], [((0,), "even"), ((2,), "odd")], [((), "even"), ((1,), "even")], [((0, 1), "odd"), other]]
    near = [
        [other, one], [one, one], [one], [one, other, ((2,), "odd")], (one, other), {one: other}, [one, list(other)],
        [((True,), "odd"), other], [one, ((2,), True)], [one, None], [[one, other]], one, [((0, 1), "odd"), ((0,), "odd")],
    ]
    return Argument("manners", InvalidManners, rights, is_two_manners, near)


def is_wishes(value):
    return type(value) is dict and all(support.is_pair(pair) and type(wish) is bool for pair, wish in value.items())


def is_wishes_of_four(value):
    return is_wishes(value) and all(support.is_pair_among(FOUR)(pair) for pair in value)


WRONG_WISHES = [
    {("a", "b"): 1}, {("a", "b"): 0}, {("a", "b"): None}, {("a", "b"): "True"}, {("a", "b"): [True]}, {("b", "a"): True},
    {("a", "a"): False}, {("a", "b", "c"): True}, {"ab": True}, {"a": True}, {("a", "B"): True}, {1: True},
    {None: False}, {(("a",), "b"): True}, {("a", "b"): True, ("c", "d"): 1}, {("a", "b"): True, "c": False},
    [("a", "b")], [(("a", "b"), True)], ((("a", "b"), True),), ("a", "b"), {("a", 1): True}, {("", "b"): True},
]


def some_wishes(rights=({("c", "d"): True, ("a", "b"): False}, {}, {("a", "b"): True}, {("a", "b"): True, ("b", "c"): True})):
    near = WRONG_WISHES + [{("a", "e"): True}, {("e", "f"): False}, {("a", "b"): True, ("d", "e"): True}]
    return Argument("wishes", InvalidWishes, list(rights), is_wishes_of_four, near)


def some_parities():
    def is_right(value):
        if type(value) is not dict:
            return False
        return all(type(one) is str and one in FOUR and type(worth) is int and worth in (0, 1) for one, worth in value.items())

    near = [
        {"a": True}, {"a": False}, {"a": 2}, {"a": -1}, {"a": None}, {"a": "1"}, {"a": (1,)}, {"a": [0]}, {"e": 0},
        {"a": 1, "e": 1}, {1: 1}, {None: 0}, {("a",): 1}, {("a", "b"): 1}, [("a", 1)], (("a", 1),), ["a"], {"A": 1},
        {"a": 0, "b": True}, {"a": {}}, {"": 1},
    ]
    rights = [{"d": 1, "a": 0}, {}, {"a": 1}, {"a": 1, "b": 0, "c": 0, "d": 0}, {"c": 1, "d": 1, "b": 0, "a": 0}]
    return Argument("parities", InvalidWishes, rights, is_right, near)


def a_parity():
    near = [2, -1, [0], (1,), "0", True, False]
    return Argument("parity", InvalidCount, [0, 1], support.is_number_below(2), near)


def free_pairs_of_four():
    """Free pairs beside the first of some wishes."""
    def is_right(value):
        return support.is_pairs_among(FOUR)(value) and not {("a", "b"), ("c", "d")} & set(value)

    near = [
        [("a", "b")], [("c", "d")], [("a", "c"), ("c", "d")], [("a", "c"), ("a", "c")], (("a", "c"),), [["a", "c"]],
        [("c", "a")], [("a", "e")], {("a", "c"): True}, ("a", "c"), [("a", "c"), None], [("a", ["c"])],
    ]
    return Argument("pairs", InvalidPairs, [[], [("b", "d"), ("a", "c")]], is_right, near)


def five_and_more():
    near = [4, 1, 0, -5, [5], (5,), "5"]
    return Argument("many", InvalidCount, [5, 6, 9, 60], lambda value: type(value) is int and value >= 5, near)


def an_odd_number():
    near = [6, 7, 60, -1, [0], (0,), "0"]
    return Argument("odd", InvalidCount, [0, 2, 5], support.is_number_below(6), near)


CLUBS = ["a", "x", "y"]


def a_square_table():
    """Three people and three clubs with one square; a word is a person and a club."""
    members = [("b", "x"), ("a", "y"), ("a", "x"), ("b", "y"), ("c", "a")]
    return Table(["c", "a", "b"], ["y", "a", "x"], members)


def a_table(name="table"):
    near = [[a_square_table()], (["a"], ["x"], []), (a_square_table(),), square(), {"a": a_square_table()}, "a\nx"]
    return Argument(name, InvalidTable, [a_square_table()], lambda value: type(value) is Table, near)


def second_table():
    argument = a_table("other")
    square_elsewhere = [("b", "a"), ("c", "a"), ("b", "y"), ("c", "y")]
    argument.rights = [
        a_square_table(), Table(["a", "b", "c"], CLUBS, square_elsewhere), Table(["a", "b", "c"], CLUBS, []),
        Table(["a", "b", "c"], CLUBS, [("a", "x")]),
    ]
    return argument


def is_place(value):
    return type(value) is tuple and len(value) == 2 and support.is_word(value[0]) and support.is_word(value[1]) and (
        value[0] in ["a", "b", "c"] and value[1] in CLUBS
    )


WRONG_PLACES = [
    ("x", "a"), ("x", "y"), ["a", "x"], ("a", "b"), ("d", "x"), ("a",), ("a", "x", "y"), ("a", ["x"]), (["a"], "x"), "ax",
    {"a": "x"}, (("a", "x"),), ("a", None), (0, 1), ("A", "x"),
]


def a_place(just_let=False):
    """A place of the table; if that is told, one that is let."""
    shut = [("a", "x"), ("a", "y"), ("b", "x"), ("b", "y")] if just_let else []
    shut = [place for place in shut if clubs.squares_through(a_square_table(), place) % 2]

    def is_right(value):
        return is_place(value) and value not in shut

    rights = [("c", "x"), ("c", "a"), ("a", "a")]
    return Argument("place", InvalidPlace, rights, is_right, WRONG_PLACES + shut)


def list_of_places(people, known):
    def is_right(value):
        if type(value) is not list or not all(type(one) is tuple and len(one) == 2 for one in value):
            return False
        if not all(type(person) is str and person in people and type(club) is str and club in known for person, club in value):
            return False
        return len(set(value)) == len(value)

    near = [[place] for place in WRONG_PLACES if not is_right([place])] + [
        [("a", "x"), ("a", "x")], (("a", "x"),), {("a", "x"): True}, [("a", "x"), None], [[("a", "x")]], ("a", "x"),
        [("a", "x"), ["a", "y"]],
    ]
    return Argument("members", InvalidPlace, [[], [("d", "x"), ("a", "a"), ("a", "x")]], is_right, near)


def free_clubs(rights):
    clubs_argument = free_people("clubs")
    clubs_argument.error = InvalidClub
    clubs_argument.rights = rights
    return clubs_argument


def few_people():
    people = free_people()
    people.rights = [["b", "a"], ["a"], ["c", "a", "b"]]
    return people


def walks_table(value):
    """Whether any object is a road from the table, by counting squares."""
    if type(value) is not list or not all(is_place(place) for place in value):
        return False
    members = set(a_square_table().members())
    for one, club in value:
        others = [(a, d) for a in "abc" for d in CLUBS if a != one and d != club]
        if sum({(a, d), (a, club), (one, d)} <= members for a, d in others) % 2:
            return False
        members ^= {(one, club)}
    return True


def places_of_road():
    near = [[place] for place in WRONG_PLACES] + [
        [("a", "x")], [("c", "x"), ("c", "y")], (("c", "x"),), {("c", "x"): 1}, ("c", "x"), [("c", "x"), ("c", "x"), ("b", "y")],
    ]
    rights = [[], [("c", "x"), ("c", "x")], [("c", "x"), ("c", "a"), ("b", "a")]]
    return Argument("places", InvalidRoad, rights, walks_table, [value for value in near if not walks_table(value)])


def a_new_word(name, error, known):
    near = known + ["abcdefghi", "E", "e ", ["e"], ("e",), "", "1"]
    return Argument(name, error, ["e", "abcdefgh"], lambda value: support.is_word(value) and value not in known, near)


def a_house():
    near = [[support.a_house()], {"a": House()}, [], "house", square()]
    return Argument("house", InvalidHouse, [support.a_house(), House()], lambda value: type(value) is House, near)


WORDS_OF_COMMANDS = {
    "put": 2, "take": 1, "deed": 2, "wish": 2, "unwish": 1, "guest": 2, "leave": 2, "exchange": 2, "to_manner": 2, "swap": 2,
}


def is_log(value):
    """A log by its form."""
    if type(value) is not list or not all(type(one) is tuple and one and type(one[0]) is str for one in value):
        return False
    return all(len(one) - 1 == WORDS_OF_COMMANDS.get(one[0]) for one in value)


def a_log():
    abc = Company(["a", "b", "c"], [])
    rights = [[], [("put", abc, plain.EVEN), ("take", 0)], [("put", abc, plain.ODD)]]
    near = [
        [("put", abc)], [("put", abc, plain.EVEN, 0)], [("take",)], [["take", 0]], (("take", 0),), [("Take", 0)], [()],
        [("undo",)], [("lets", 0)], [("try", [])], [("take", 0), None], [(["take"], 0)], [("met", 0)], {("take", 0): 1},
        ("take", 0), [("deed", 0, "a", "b")], [(True, 0)], [("swap", 0)],
    ]
    return Argument("log", InvalidLog, rights, is_log, near)


def is_command(value):
    """A command of a script by its form."""
    if type(value) is not tuple or not value or type(value[0]) is not str:
        return False
    word, things = value[0], value[1:]
    tests = {
        "put": [support.is_company, is_manner], "take": [support.is_count], "deed": [support.is_count, support.is_pair],
        "wish": [support.is_count, is_wishes], "unwish": [support.is_count], "guest": [support.is_count, support.is_word],
        "leave": [support.is_count, support.is_word], "exchange": [support.is_count, support.is_company],
        "to_manner": [support.is_count, is_manner], "swap": [support.is_count, support.is_count],
        "lets": [support.is_count], "met": [support.is_count], "undo": [], "redo": [], "try": [is_script],
    }.get(word)
    return tests is not None and len(tests) == len(things) and all(test(one) for test, one in zip(tests, things))


def is_script(value):
    return type(value) is list and all(is_command(one) for one in value)


def a_day():
    """A script with each command, some of them refused."""
    abc, near = Company(["a", "b", "c"], [("a", "b")]), Company(["a", "b", "c"], [("a", "c"), ("b", "c")])
    return [
        ("put", abc, plain.EVEN), ("put", near, ((0, 2), "odd")), ("wish", 0, {("b", "c"): False, ("a", "b"): True}),
        ("lets", 0), ("met", 0), ("deed", 0, ("a", "c")), ("unwish", 0), ("guest", 0, "end"), ("leave", 0, "end"),
        ("try", [("exchange", 0, near), ("try", [("take", 7), ("undo",)]), ("to_manner", 0, plain.TIES_ODD), ("try", [])]),
        ("swap", 0, 1), ("undo",), ("redo",), ("wish", 1, {}), ("take", 10 ** 29),
    ]


WRONG_COMMANDS = [
    ("put", ["a"], plain.EVEN), ("put", Company(["a"], [])), ("put", plain.EVEN, Company(["a"], [])), ("take", -1),
    ("take", True), ("take", "0"), ("take",), ("take", 0, 0), ("deed", 0, ["a", "b"]), ("deed", 0, ("b", "a")),
    ("deed", 0, "a", "b"), ("wish", 0, {("a", "b"): 1}), ("wish", 0, {("b", "a"): True}), ("wish", 0, None),
    ("wish", 0, [("a", "b")]), ("unwish", None), ("guest", 0, "A"), ("guest", 0, ["a"]), ("leave", 0, ("a",)),
    ("leave", "a"), ("exchange", 0, "a"), ("to_manner", 0, ((True,), "even")), ("to_manner", 0, "even"), ("swap", 0),
    ("swap", 0, False), ("lets", (0,)), ("met", [0]), ("undo", 0), ("undo", None), ("redo", []), ("try", ()),
    ("try", [["undo"]]), ("try", ("undo",)), ("try", [("undo",), None]), ("try",), ("try", [("try", [("take", True)])]),
    ("Undo",), (["undo"],), (None,), (), ["undo"], ("undo"), ("is_met", 0), ("way", 0), ("log",), None, {("undo",): 1},
    ("spots",), (True,), ((),), ("take", None),
]


def a_script(rights=None):
    near = [[command] for command in WRONG_COMMANDS] + [[("undo",), command] for command in WRONG_COMMANDS]
    near += [(("undo",),), {("undo",): True}, ("undo",), [[("undo",)]]]
    return Argument("script", InvalidScript, rights or [a_day(), [], [("try", [])]], is_script, near)


def a_text(rights, wrongs, with_words=False):
    """A text; if that is told, each word by itself is one, too."""
    def is_right(value):
        return type(value) is str and (value in rights or with_words and support.is_word(value))

    return Argument("text", InvalidText, rights, is_right, wrongs)


def a_list_of_companies():
    def is_right(value):
        return type(value) is list and all(support.is_company(one) for one in value)

    near = [(square(),), [square(), None], [[square()]], {"a": square()}, [square(), a_square_table()], square()]
    rights = [[], [square()], [square(), Company(["z"], [])]]
    return Argument("companies", InvalidCompanies, rights, is_right, near)


def any_change():
    return Argument("change", InvalidChange, RIGHT_CHANGES + UNFIT[:2], is_change, WRONG_FORMS)


def any_road():
    def is_right(value):
        return type(value) is list and all(support.is_pair(one) for one in value)

    near = [
        (("a", "b"),), [["a", "b"]], [("b", "a")], [("a", "b"), None], {("a", "b"): 1}, [("a", "a")], ["ab"], ("a", "b"),
        [("a", "b", "c")], [("a", ["b"])], [[("a", "b")]], [("a", "B")], "a b",
    ]
    return Argument("road", InvalidRoad, [[], ROAD, [("end", "friends")]], is_right, near)


def any_wishes():
    rights = [{("b", "c"): False, ("a", "b"): True}, {}, {("end", "friends"): True}]
    return Argument("wishes", InvalidWishes, rights, is_wishes, WRONG_WISHES)


# Each function with its arguments, in the order of its parameters.
CALLS = [
    (Company, [free_people(), some_friends()]),
    (companies.strangers, [a_company()]),
    (companies.friends_of, [a_company(), a_person()]),
    (companies.are_friends, [a_company(), a_pair()]),
    (companies.friend_numbers, [a_company()]),
    (companies.changed, [a_company(), a_change()]),
    (companies.changed_by, [a_company(), some_changes()]),
    (companies.opposite, [a_company()]),
    (companies.cone, [a_company(), a_new_person()]),
    (companies.side_by_side, [a_company("one"), an_other()]),
    (companies.cut_to, [a_company(), some_people()]),
    (companies.renamed, [a_company(), some_names()]),
    (companies.company_at, [free_people(), a_number(64)]),
    (companies.company_number, [a_company()]),
    (triples.third_people, [a_company(), a_pair(), a_kind()]),
    (triples.kind_numbers, [a_company(), a_pair()]),
    (triples.triples_of, [a_company(), a_number(4)]),
    (triples.triple_numbers, [a_company()]),
    (triples.triples_moved, [a_company(), a_pair()]),
    (triples.forks, [a_company(), a_person()]),
    (triples.fork_number, [a_company()]),
    (triples.odd_people, [a_company()]),
    (triples.kinds_moved, [a_company(), a_pair()]),
    (triples.odd_pairs, [a_company(), a_kind()]),
    (triples.odd_friends, [a_company(), a_person(), a_kind()]),
    (manners.counted_people, [a_company(), a_manner(), a_pair()]),
    (manners.is_let, [a_company(), a_manner(), a_pair()]),
    (manners.let_pairs, [a_company(), a_manner()]),
    (manners.manners_letting, [a_company(), ascending_pairs()]),
    (manners.is_kept, [a_manner(), Judged([((3,), False), ((), True), None])]),
    (manners.kept_counts, [a_manner()]),
    (manners.parity_of, [a_company(), a_tally()]),
    (manners.are_alike, [a_manner(name="one"), a_manner(plain.MANNERS, "other"), a_number_of_people()]),
    (manners.alike_manners, [a_manner(), a_number_of_people()]),
    (manners.parting_company, [
        a_manner(name="one"), a_manner(plain.MANNERS, "other"), a_number_of_people([3, 1, 2, 4, 5, 9]),
    ]),
    (manners.is_parting_company, [
        a_manner(name="one"), a_manner(plain.MANNERS, "other"), a_number_of_people([4, 1, 14]), Judged([square(), None]),
    ]),
    (manners.opposite_manner, [a_manner(plain.MANNERS)]),
    (manners.real_manner, [a_manner(plain.MANNERS), a_number_of_people()]),
    (manners.lets_all, [a_manner(plain.MANNERS), a_number_of_people()]),
    (manners.lets_none, [a_manner(plain.MANNERS), a_number_of_people()]),
    (manners.let_number, [a_company(), a_manner()]),
    (manners.freed_by, [a_company(), a_manner([plain.EVEN, ((), "even")]), a_pair()]),
    (roads.is_road, [a_company(), a_manner(), Judged([[], ROAD, [("a", "b")] * 3, None])]),
    (roads.led, [a_company(), just_even(), a_road()]),
    (roads.companies_on, [a_company(), just_even(), a_road()]),
    (roads.differing_pairs, [a_company("one"), a_second(LIKE_SQUARE)]),
    (roads.leads_to, [a_company("one"), a_second(LIKE_SQUARE), a_manner(), Judged([[], ROAD, None])]),
    (roads.road_back, [a_company(), just_even(), a_road()]),
    (roads.cut_short, [a_company(), just_even(), a_road()]),
    (roads.exchanged, [a_company(), just_even(), a_road([ROAD]), an_at()]),
    (roads.least_road, [a_company(), just_even(), a_road()]),
    (roads.same_but_order, [a_company(), just_even(), a_road([ROAD]), Judged([ROAD, [], None])]),
    (roads.roads_of, [a_company(), a_manner(), a_count("size", [0, 1, 3, 5])]),
    (roads.road_at, [a_company(), just_even(), a_count("size", [2]), a_number(20)]),
    (roads.road_place, [a_company(), just_even(), a_road()]),
    (evens.odd_one, [a_company()]),
    (evens.even_mark, [a_company()]),
    (evens.joined_evenly, [a_company("one"), a_second(LIKE_SQUARE)]),
    (evens.even_parting, [a_company("one"), a_second(LIKE_SQUARE)]),
    (evens.fewest_evenly, [a_company()]),
    (evens.least_evenly, [a_company()]),
    (evens.is_least_evenly, [a_company(), Judged([Company(FOUR, []), square(), None])]),
    (evens.always_and_never, [a_company()]),
    (evens.lessening, [a_company()]),
    (evens.is_lessening, [a_company(), Judged([[("a", "b")], [], None])]),
    (evens.even_road, [a_company("one"), a_second(LIKE_SQUARE)]),
    (evens.is_even_road, [a_company("one"), a_second(LIKE_SQUARE), Judged([[], ROAD, None])]),
    (evens.joined_among, [a_company(), companies_like_square()]),
    (evens.grouped_evenly, [companies_alike()]),
    (odds.parts_of, [a_company()]),
    (odds.odd_marks, [a_company()]),
    (odds.joined_oddly, [a_company("one"), a_second(LIKE_SQUARE)]),
    (odds.odd_parting, [a_company("one"), a_second(LIKE_SQUARE)]),
    (odds.fewest_oddly, [a_company()]),
    (odds.least_oddly, [a_company()]),
    (odds.is_least_oddly, [a_company(), Judged([square(), None])]),
    (odds.headed, [a_company()]),
    (odds.is_headed, [a_company(), Judged([square(), None])]),
    (odds.odd_road, [a_company("one"), a_second(LIKE_SQUARE)]),
    (odds.is_odd_road, [a_company("one"), a_second(LIKE_SQUARE), Judged([[], ROAD, None])]),
    (odds.oddly_bound, [a_company()]),
    (ties.tie_mark, [a_company(), a_word()]),
    (ties.tie_joined, [a_company("one"), a_second(LIKE_SQUARE), a_word()]),
    (ties.tie_road, [a_company("one"), a_second(LIKE_SQUARE), a_word()]),
    (ties.square_road, [a_company(), people_of_square("four", [FOUR, ["c", "a", "b", "d"]], 4)]),
    (ties.is_square_road, [a_company(), people_of_square("four", [FOUR], 4), Judged([[], ROAD, None])]),
    (ties.moving_road, [a_company(), people_of_square("people", [[], ["a", "b"], FOUR], None)]),
    (ties.is_moving_road, [a_company(), people_of_square("people", [[], ["a", "b"]], None), Judged([[], None])]),
    (ties.triangle_road, [a_company(), people_of_square("three", [["a", "b", "c"], ["a", "c", "d"]], 3)]),
    (ties.is_triangle_road, [a_company(), people_of_square("three", [["a", "b", "c"]], 3), Judged([[], None])]),
    (anyway.joined, [a_company("one"), a_second(LIKE_SQUARE), a_manner(plain.MANNERS)]),
    (anyway.road_between, [a_company("one"), a_second(LIKE_SQUARE), a_manner(plain.MANNERS)]),
    (anyway.why_apart, [a_company("one"), a_second(LIKE_SQUARE), a_manner(plain.MANNERS)]),
    (anyway.is_why_apart, [a_company("one"), a_second(LIKE_SQUARE), a_manner(plain.MANNERS), Judged(["count", None])]),
    (anyway.fewest_deeds, [a_company("one"), a_second(LIKE_SQUARE), a_manner(plain.MANNERS)]),
    (anyway.shortest_road, [a_company("one"), a_second(LIKE_SQUARE), a_manner(plain.MANNERS)]),
    (anyway.is_shortest_road, [a_company("one"), a_second(LIKE_SQUARE), a_manner(), Judged([[], None])]),
    (anyway.class_of, [a_company(), a_manner()]),
    (anyway.class_by_deeds, [a_company(), a_manner()]),
    (anyway.deeds_to_friends, [a_company(), a_manner(), a_pair()]),
    (anyway.road_to_friends, [a_company(), a_manner(), a_pair()]),
    (anyway.is_road_to_friends, [a_company(), a_manner(), a_pair(), Judged([[], [("a", "c")], None])]),
    (anyway.farthest_in_class, [a_company(), a_manner()]),
    (anyway.shared_class, [a_company(), a_manner(), a_manner(name="newer")]),
    (lones.is_lone, [a_company(), a_manner()]),
    (lones.some_let, [a_company(), a_manner()]),
    (lones.lone_halves, [a_company()]),
    (lones.crossing_labels, [a_company()]),
    (lones.are_crossing_labels, [a_company(), Judged([{"a": (1, 0), "b": (0, 1), "c": (1, 0), "d": (0, 1)}, None])]),
    (lones.sharing_labels, [a_company()]),
    (lones.are_sharing_labels, [a_company(), Judged([{"a": (1,)}, None])]),
    (lones.crossing_company, [crossing()]),
    (lones.sharing_company, [sharing()]),
    (lones.are_even, [some_labels([{"b": (1, 0), "a": (0, 1)}, {"a": ()}, {"b": (1,), "a": (1,)}], is_labels)]),
    (lones.lone_parts, [a_company()]),
    (lones.strangers_lone, [a_company()]),
    (lones.lone_companies, [free_people(), a_manner()]),
    (lones.lone_at, [free_people(), a_manner([plain.ODD, plain.TIES_ODD]), a_number(14)]),
    (lones.lone_place, [a_company(), a_manner()]),
    (numbers.even_families, [a_number_of_people(), a_count("size", [0, 1, 2, 60])]),
    (numbers.untied_companies, [a_count("size", [0, 1, 2, 14, 60])]),
    (numbers.is_wholly_even, [a_company()]),
    (numbers.is_wholly_odd, [a_company()]),
    (numbers.rank_of, [a_company()]),
    (numbers.even_by_rank, [a_number_of_people()]),
    (numbers.even_count, [a_number_of_people()]),
    (numbers.odd_count, [a_number_of_people()]),
    (numbers.lone_count, [a_manner(plain.MANNERS), a_number_of_people()]),
    (numbers.lone_connected, [a_number_of_people()]),
    (numbers.class_count, [a_manner(plain.MANNERS), a_number_of_people()]),
    (numbers.class_sizes, [a_manner(plain.MANNERS), a_number_of_people([3, 1, 2])]),
    (numbers.joined_tuples, [a_manner(plain.MANNERS), a_number_of_people([3, 1, 2])]),
    (numbers.tie_class, [a_number_of_people([5, 6, 14]), an_odd_number()]),
    (numbers.tie_sizes, [tie_manner(), a_number_of_people()]),
    (wishes.are_wishes, [free_people(), Judged([{("a", "b"): True}, {}, {("a", "e"): True}, None])]),
    (wishes.meets, [a_company(), some_wishes()]),
    (wishes.free_pairs, [free_people(), some_wishes()]),
    (wishes.met_with, [free_people(), some_wishes(), free_pairs_of_four()]),
    (wishes.rest_of, [a_company(), even_manner()]),
    (wishes.rest_sum, [free_people(), some_wishes(), even_manner()]),
    (wishes.are_fixed, [free_people(), some_wishes(), even_manner()]),
    (wishes.safe_wishes, [five_and_more(), even_manner()]),
    (wishes.fewest_free, [free_people(), some_wishes(), even_manner(), a_parity()]),
    (wishes.least_free, [free_people(), some_wishes(), even_manner(), a_parity()]),
    (wishes.is_least_free, [free_people(), some_wishes(), even_manner(), a_parity(), Judged([[], [("a", "c")], None])]),
    (wishes.fewest_in_class, [a_company(), some_wishes(), even_manner()]),
    (wishes.wished_company, [a_company(), some_wishes(), even_manner()]),
    (wishes.is_wished_company, [a_company(), some_wishes(), even_manner(), Judged([square(), None])]),
    (wishes.forced, [a_company(), some_wishes(), even_manner()]),
    (wishes.many_met, [a_company(), some_wishes(), even_manner()]),
    (wishes.met_at, [a_company(), some_wishes([{("a", "b"): True}, {("b", "c"): True}]), just_even(), a_number(22)]),
    (wishes.surplus, [free_people(), some_wishes()]),
    (wishes.fewest_for, [free_people(), some_wishes(), some_parities()]),
    (wishes.company_for, [free_people(), some_wishes(), some_parities()]),
    (wishes.is_company_for, [free_people(), some_wishes(), some_parities(), Judged([square(), None])]),
    (wishes.odd_lot, [free_people(), some_wishes(), some_parities()]),
    (wishes.is_odd_lot, [free_people(), some_wishes(), some_parities(), Judged([["a"], FOUR, None])]),
    (wishes.meets_all, [free_people(), some_wishes(), some_parities(), even_manner(), a_parity()]),
    (wishes.company_for_all, [free_people(), some_wishes(), some_parities(), even_manner(), a_parity()]),
    (wishes.is_company_for_all, [
        free_people(), some_wishes(), some_parities(), even_manner(), a_parity(), Judged([square(), None]),
    ]),
    (newcomers.cones_joined, [a_company("one"), a_second(LIKE_SQUARE)]),
    (newcomers.either_joined, [a_company("one"), a_second(LIKE_SQUARE), two_manners()]),
    (newcomers.either_lets, [a_company(), two_manners()]),
    (newcomers.either_lone, [a_company(), two_manners()]),
    (newcomers.either_lone_number, [number_of_people(), two_manners()]),
    (newcomers.either_road, [a_company("one"), a_second(LIKE_SQUARE), two_manners()]),
    (newcomers.fewest_newcomers, [a_company("one"), a_second(LIKE_SQUARE), one_of_manners([plain.EVEN, plain.ODD, plain.TIES_EVEN, plain.TIES_ODD])]),
    (newcomers.freeing_number, [a_company()]),
    (newcomers.is_cone_of, [a_company(), a_person(), Judged([Company(["b", "c", "d"], []), None])]),
    (newcomers.is_either_road, [a_company("one"), a_second(LIKE_SQUARE), two_manners(), Judged([[], ROAD, None])]),
    (newcomers.never_free, [a_company()]),
    (newcomers.with_newcomers, [a_company(), a_count("number", [0, 1, 2, 5])]),
    (Table, [free_people(), free_clubs([["y", "x", "a"]]), list_of_places(FOUR, CLUBS)]),
    (clubs.squares_of, [a_table()]),
    (clubs.squares_through, [a_table(), a_place()]),
    (clubs.let_places, [a_table()]),
    (clubs.moved, [a_table(), a_place(just_let=True)]),
    (clubs.table_behind, [a_table(), places_of_road()]),
    (clubs.is_club_road, [a_table("one"), second_table(), Judged([[], [("c", "a")], None])]),
    (clubs.is_lone_table, [a_table()]),
    (clubs.some_let_place, [a_table()]),
    (clubs.lone_tables, [few_people(), free_clubs([["y", "x"], ["a"], ["x", "a", "y"]])]),
    (clubs.mark, [a_table()]),
    (clubs.are_joined, [a_table("one"), second_table()]),
    (clubs.fewest_members, [a_table()]),
    (clubs.least_table, [a_table()]),
    (clubs.is_least_table, [a_table(), Judged([a_square_table(), None])]),
    (clubs.club_road, [a_table("one"), second_table()]),
    (clubs.home_road, [a_table()]),
    (clubs.many_classes, [few_people(), free_clubs([["y", "x"], ["a"], ["x", "a", "y"]])]),
    (clubs.with_club, [a_table(), a_new_word("club", InvalidClub, CLUBS)]),
    (clubs.with_person, [a_table(), a_new_word("person", InvalidPerson, ["a", "b", "c"])]),
    (house.replayed, [a_house(), a_log()]),
    (scripts.script_text, [a_script()]),
    (scripts.read_script, [a_text(["", "undo\nredo", "try\nend", "take 0", "undo", "deed 0 a b"], ["undo ", "undo\n", "take 00", "try"])]),
    (scripts.end_of, [a_script()]),
    (scripts.shortened, [a_script()]),
    (papers.company_text, [a_company()]),
    (papers.read_company, [a_text(["a b\na b", "a", "a b", "a b friends", "come e"], ["b a", "a a", "a\nb", "a\n"], True)]),
    (papers.companies_text, [a_list_of_companies()]),
    (papers.read_companies, [a_text(["a\n\nb", "", "a b", "a b friends", "come e"], ["a\n\n", "a\n\n\nb", "\n\na"], True)]),
    (papers.change_text, [any_change()]),
    (papers.read_change, [a_text(["come e", "part a b"], ["part b a", "come", "leave", "come  e", "part a", "go e"])]),
    (papers.road_text, [any_road()]),
    (papers.read_road, [a_text(["a b\na b", "", "a b", "come e"], ["b a", "a", "a b\n", "a b c", "a  b"])]),
    (papers.wishes_text, [any_wishes()]),
    (papers.read_wishes, [a_text(["a b friends", "", "a b strangers\nb c friends"], ["b a friends", "a b", "a b True"])]),
    (papers.table_text, [a_table()]),
    (papers.read_table, [a_text(["a b\nx\nb x", "a\na", "a\nx"], ["a", "a\n", "a b\nx\nx a", "b a\nx"])]),
]

# What changes something that is passed.
CHANGING = [(scripts.play, [a_house(), a_script()])]

# The functions of two companies that have to be of the same people.
OF_TWO = [row for row in CALLS if [one.name for one in row[1]][:2] == ["one", "other"] and row[1][1].rights is LIKE_SQUARE]


def right_calls():
    """Each function with each of the right values of each argument, those of the others being the first ones."""
    for function, arguments in CALLS:
        firsts = [argument.rights[0] for argument in arguments]
        for at, argument in enumerate(arguments):
            for value in argument.rights:
                yield function, copy.deepcopy(firsts[:at] + [value] + firsts[at + 1:])
