"""Every function of the landed modules, with right arguments, and for each argument the wrong ones and their error."""

import copy

from evenfriends import companies, triples
from evenfriends.companies import Company
from evenfriends.errors import (
    InvalidChange, InvalidChanges, InvalidCompany, InvalidCount, InvalidNames, InvalidPair, InvalidPairs, InvalidPeople,
    InvalidPerson,
)
from tests import support

FOUR = ["a", "b", "c", "d"]


def square():
    return Company(["d", "c", "b", "a"], [("c", "d"), ("b", "c"), ("a", "b"), ("a", "d")])


class Argument:
    """A parameter's name, right values, and the wrong ones: any objects that are not right, and near misses."""

    def __init__(self, name, error, rights, is_right, near=()):
        self.name = name
        self.error = error
        self.rights = rights
        self.is_right = is_right
        self.near = near

    def wrongs(self):
        found = [value for value in support.any_objects() if not self.is_right(value)]
        return found + [copy.deepcopy(value) for value in self.near]


def a_company(name="company"):
    near = [([], []), (["a", "b"], []), {"people": ["a"]}, [square()], (square(),), [["a"], []]]
    return Argument(name, InvalidCompany, [square()], support.is_company, near)


def a_person():
    near = ["e", "aa", "ab", "x", ["a"], ("a",), {"a": 1}]
    return Argument("person", InvalidPerson, ["a", "d"], lambda value: support.is_word(value) and value in FOUR, near)


def a_new_person():
    near = ["a", "d", "abcdefghi", "E", "e ", ["e"], ("e",)]
    return Argument(
        "person", InvalidPerson, ["e", "abcdefgh"], lambda value: support.is_word(value) and value not in FOUR, near
    )


def a_pair():
    near = [
        ("a", "e"), ("e", "f"), ("c", "a"), ["a", "c"], ("a", "c", "d"), (("a",), "c"), ("a", ["c"]), ("a", "a"), "ac",
    ]
    return Argument("pair", InvalidPair, [("a", "b"), ("a", "c")], support.is_pair_among(FOUR), near)


def a_kind():
    return Argument("kind", InvalidCount, [0, 1, 2], support.is_number_below(3), [3, -1, (1,), [1], "1"])


def is_change(value):
    if type(value) is not tuple or len(value) != 2 or type(value[0]) is not str:
        return False
    if value[0] in ["come", "leave"]:
        return support.is_word(value[1])
    return value[0] in ["befriend", "part"] and support.is_pair(value[1])


def is_change_of_square(value):
    if not is_change(value):
        return False
    if value[0] == "come":
        return value[1] not in FOUR
    if value[0] == "leave":
        return value[1] in FOUR
    friends = value[1] in [("a", "b"), ("a", "d"), ("b", "c"), ("c", "d")]
    return support.is_pair_among(FOUR)(value[1]) and friends == (value[0] == "part")


RIGHT_CHANGES = [("come", "e"), ("leave", "c"), ("befriend", ("a", "c")), ("part", ("c", "d"))]
WRONG_FORMS = [
    ["come", "e"], ("come",), ("come", "e", "f"), ("come", ["e"]), ("come", ("a", "c")), ("come", "E"), ("go", "e"),
    ("leave", None), ("leave", ("a",)), ("befriend", "a"), ("befriend", "ac"), ("befriend", ["a", "c"]),
    ("befriend", ("c", "a")), ("befriend", ("a", "a")), ("befriend", "a", "c"), ("part", ("a", "b", "c")),
    ("Part", ("a", "b")),
    ("part", (("a",), "b")), (["part"], ("a", "b")), (("part",), ("a", "b")), (None, "e"), (True, ("a", "b")),
    ({}, "e"),
]
UNFIT = [
    ("come", "a"), ("come", "d"), ("leave", "e"), ("befriend", ("a", "b")), ("befriend", ("a", "e")),
    ("befriend", ("e", "f")),
    ("part", ("a", "c")), ("part", ("a", "e")), ("part", ("e", "f")),
]


def a_change():
    return Argument("change", InvalidChange, RIGHT_CHANGES, is_change_of_square, WRONG_FORMS + UNFIT)


def is_changes(value):
    return type(value) is list and all(is_change(one) for one in value)


def some_changes():
    right = [[], [("come", "e"), ("befriend", ("a", "e")), ("part", ("a", "b")), ("leave", "c")]]
    near = [[("come", "e"), form] for form in WRONG_FORMS] + [(("come", "e"),), ("come", "e"), {"come": "e"}]
    return Argument("changes", InvalidChanges, right, is_changes, near)


def some_people():
    near = [
        ["a", "b", "e"], ["a", "b", "a"], ("a", "b"), "ab", {"a": 1}, ["a", ["b"]], ["a", ("b",)], ["a", None], [],
        ["a", "B"],
    ]
    return Argument("people", InvalidPeople, [["c", "a"], FOUR], support.is_people_among(FOUR), near)


def free_people(name="people"):
    near = [
        ["a", "b", "a"], ("a", "b"), "ab", {"a": 1}, ["a", ["b"]], ["a", ("b",)], ["a", None], [], ["a", "B"],
        ["a", ""],
    ]
    return Argument(name, InvalidPeople, [["d", "a", "c", "b"]], support.is_people, near)


def some_friends():
    near = [
        [("a", "e")], [("b", "a")], [("a", "b"), ("a", "b")], [["a", "b"]], (("a", "b"),), {("a", "b"): True},
        [("a", "b"), None],
        [("a", "b", "c")], ("a", "b"), [("a", ["b"])], [[("a", "b")]], [("a", "b"), ("c", "c")],
    ]
    return Argument("friends", InvalidPairs, [[], [("c", "d"), ("a", "b")]], support.is_pairs_among(FOUR), near)


def is_names(value):
    return (
        type(value) is dict and len(value) == 4 and all(one in FOUR for one in value if type(one) is str)
        and all(type(one) is str for one in value) and support.is_people(list(value.values()))
    )


def some_names():
    right = [{"d": "x", "a": "b", "b": "a", "c": "abcdefgh"}, {"a": "a", "b": "b", "c": "c", "d": "d"}]
    near = [
        {"a": "x", "b": "y", "c": "z"}, {"a": "x", "b": "y", "c": "z", "d": "w", "e": "v"},
        {"a": "x", "b": "y", "c": "z", "e": "w"},
        {"a": "x", "b": "y", "c": "z", "d": "x"}, {"a": "x", "b": "y", "c": "z", "d": "X"},
        {"a": "x", "b": "y", "c": "z", "d": ["w"]},
        {"a": "x", "b": "y", "c": "z", "d": ("w",)}, {"a": "x", "b": "y", "c": "z", "d": None},
        {"a": "x", "b": "y", "c": "z", None: "w"},
        {"a": "x", "b": "y", "c": "z", ("d",): "w"}, {"a": "x", "b": "y", "c": "z", "d": {}},
        {"a": "x", "b": "y", "c": "z", 1: "w"},
        [("a", "x"), ("b", "y"), ("c", "z"), ("d", "w")], ["w", "x", "y", "z"], ("w", "x", "y", "z"),
        {"a": ["x"], "b": ["x"], "c": ["x"], "d": ["x"]}, {"a": True, "b": False, "c": 1, "d": 0},
    ]
    return Argument("names", InvalidNames, right, is_names, near)


def a_number(end):
    near = [end, end + 1, -1, (0,), "0", [0]]
    return Argument("number", InvalidCount, [0, end // 2, end - 1], support.is_number_below(end), near)


def an_other():
    company = a_company("other")
    company.rights = [Company(["z"], []), Company(["y", "x"], [("x", "y")])]
    return company


# Each function with its arguments, in the order of its parameters.
CALLS = [
    (Company, [free_people(), some_friends()]),
    (companies.strangers, [a_company()]),
    (companies.friends_of, [a_company(), a_person()]),
    (companies.are_friends, [a_company(), a_pair()]),
    (companies.friend_numbers, [a_company()]),
    (companies.changed, [a_company(), a_change()]),
    (companies.changed_by, [a_company(), some_changes()]),
    (companies.opposite, [a_company()]),
    (companies.cone, [a_company(), a_new_person()]),
    (companies.side_by_side, [a_company("one"), an_other()]),
    (companies.cut_to, [a_company(), some_people()]),
    (companies.renamed, [a_company(), some_names()]),
    (companies.company_at, [free_people(), a_number(64)]),
    (companies.company_number, [a_company()]),
    (triples.third_people, [a_company(), a_pair(), a_kind()]),
    (triples.kind_numbers, [a_company(), a_pair()]),
    (triples.triples_of, [a_company(), a_number(4)]),
    (triples.triple_numbers, [a_company()]),
    (triples.triples_moved, [a_company(), a_pair()]),
    (triples.forks, [a_company(), a_person()]),
    (triples.fork_number, [a_company()]),
    (triples.odd_people, [a_company()]),
    (triples.kinds_moved, [a_company(), a_pair()]),
    (triples.odd_pairs, [a_company(), a_kind()]),
    (triples.odd_friends, [a_company(), a_person(), a_kind()]),
]


def right_calls():
    """Each function with each of the right values of each argument, those of the others being the first ones."""
    for function, arguments in CALLS:
        firsts = [argument.rights[0] for argument in arguments]
        for at, argument in enumerate(arguments):
            for value in argument.rights:
                yield function, copy.deepcopy(firsts[:at] + [value] + firsts[at + 1:])
