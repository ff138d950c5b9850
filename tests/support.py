"""What several tests share: wrong things of all kinds, forms told independently of the program, deep copies."""

import itertools
import re

from evenfriends.clubs import Table
from evenfriends.companies import Company
from evenfriends.errors import FriendError, InvalidPerson, NothingToRedo, NothingToUndo
from evenfriends.house import House

LETTERS = ["a", "b", "c", "d", "e"]


def nested(depth):
    value = []
    for at in range(depth):
        value = [value] if at % 2 else (value,)
    return value


def any_objects():
    """Things of each kind that the document calls any object, made anew."""
    return [
        None, True, False,
        0, 1, 2, 3, 4, 5, 14, -1, -10 ** 29, 10 ** 29,
        "", "a", "b", "e", "abcdefgh", "abcdefghi", "A", "aB", "a b", " a", "a\n", "\n", "\t", "a1", "1", "~", "`", "{",
        [], [[]], [None], ["a"], ["a", "b"], ["b", "a"], ["a", "a"], ["a", "b", "c", "d"], [["a"]], ["a", 1], [True],
        [0],
        [("a", "b")], [["a", "b"]], [("b", "a")], [("a", "b"), ("a", "b")], [("a", "b"), ["a", "c"]], [("a", ("b",))],
        (), ("a",), ("a", "b"), ("b", "a"), ("a", "a"), ("a", "b", "c"), ("a", ["b"]), (["a"], "b"), ("a", None),
        (1, 2), (True, False), ("A", "b"), (("a", "b"),), ((), ()),
        {}, {"a": "b"}, {"a": "a"}, {"a": ["a"]}, {("a", "b"): True}, {None: [1], 1: {}, (1, ("x",)): ()},
        {True: False}, {("a", "b"): 1}, {("b", "a"): True}, {("a", "e"): False}, {"a": 0}, {"a": 1}, {"a": True},
        [((1,), "odd"), ((2,), "even")], (((1,), "odd"), ((2,), "even")), [((2,), "even"), ((1,), "odd")],
        "even", "odd", "lone", "count", ((2,), "even"), ((), "odd"), ((True,), "even"), [((2,), "even")], [(2,), "even"],
        ((3,), False), ((), True), ((3,), 0), {"a": (0, 1)}, {"a": ()}, {"a": (1,), "b": (1,)}, {"a": (True,)},
        {"a": [1]},
        ("come", "e"), ("leave", "a"), ("befriend", ("a", "b")), ["come", "e"], [("come", "e")],
        Company(["a"], []), Company(["a", "b"], [("a", "b")]), [Company(["a"], [])], (Company(["a"], []),),
        {"a": Company(["a"], [])},
        Table(["a"], ["a"], []), [Table(["a"], ["x"], [("a", "x")])], House(), [House()], a_house(),
        ("undo",), [("undo",)], [("try", [])], ("try", []), [("put", Company(["a"], []), ((), "even"))],
        ("take", 0), [("take", 0)], [("deed", 0, ("a", "b"))], ["undo"], [["undo"]], "undo", ("a", "x"), [("a", "x")],
        "a b", "a\nx", "a b friends", "come e", "deed 0 a b",
        FriendError(), InvalidPerson("a"), InvalidPerson(), NothingToUndo(), {InvalidPerson("a"): "a"},
        nested(38),
    ]


def a_house():
    """A house with two spots, wishes, something to take back and something to make again."""
    house = House()
    house.put(Company(["a", "b", "c"], [("a", "b")]), ((2,), "even"))
    house.wish(0, {("a", "c"): True})
    house.put(Company(["a", "b", "c"], []), ((1,), "odd"))
    house.deed(0, ("a", "c"))
    house.undo()
    return house


def told_now(house):
    """What a house tells of its spots, and its log."""
    rooms = [(at, house.company_there(at), house.manner_there(at), house.wishes_there(at)) for at in house.spots()]
    return frozen(rooms), frozen(house.log())


def house_told(house):
    """All that a house tells, also when commands are taken back or made again, and when one is put."""
    found = [told_now(house)]
    for name, error in [("undo", NothingToUndo), ("redo", NothingToRedo)]:
        other = house.copy()
        while True:
            try:
                getattr(other, name)()
            except error:
                break
            found.append((name, told_now(other)))
    found.append(house.copy().put(Company(["a"], []), ((), "even")))
    return found


def is_word(value):
    return type(value) is str and re.fullmatch("[a-z]{1,8}", value) is not None


def is_pair(value):
    return type(value) is tuple and len(value) == 2 and is_word(value[0]) and is_word(value[1]) and value[0] < value[1]


def is_people(value):
    return (
        type(value) is list and len(value) > 0 and all(is_word(one) for one in value)
        and len({one for one in value}) == len(value)
    )


def is_people_among(people):
    return lambda value: is_people(value) and all(one in people for one in value)


def is_pair_among(people):
    return lambda value: is_pair(value) and value[0] in people and value[1] in people


def is_pairs_among(people):
    fits = is_pair_among(people)
    return lambda value: type(value) is list and all(fits(one) for one in value) and len(set(value)) == len(value)


def is_company(value):
    return type(value) is Company


def is_count(value):
    return type(value) is int and value >= 0


def is_number_below(end):
    return lambda value: type(value) is int and 0 <= value < end


def all_companies(people):
    """All companies of some people, as the fewest lines can list them."""
    pairs = list(itertools.combinations(sorted(people), 2))
    for size in range(len(pairs) + 1):
        for friends in itertools.combinations(pairs, size):
            yield Company(list(people), list(friends))


def small_companies():
    """All companies of one to four people, and some of five."""
    for many in range(1, 5):
        yield from all_companies(LETTERS[:many])
    for at, company in enumerate(all_companies(LETTERS)):
        if at % 37 == 0 or at > 1020:
            yield company


def frozen(value):
    """What a value holds, with the kinds of all things within, so that nothing that changes later is in it."""
    if isinstance(value, (list, tuple)):
        return type(value).__name__, [frozen(one) for one in value]
    if isinstance(value, dict):
        return "dict", [(frozen(key), frozen(worth)) for key, worth in value.items()]
    if isinstance(value, Company):
        return "Company", frozen(value.people()), frozen(value.friends())
    if isinstance(value, Table):
        return "Table", frozen(value.people()), frozen(value.clubs()), frozen(value.members())
    if isinstance(value, House):
        return "House", house_told(value)
    if isinstance(value, FriendError):
        return type(value).__name__, frozen(getattr(value, "value", None))
    return type(value).__name__, repr(value)


def spoil(value):
    """Change all lists and dictionaries within a value."""
    if isinstance(value, (list, tuple)):
        for one in value:
            spoil(one)
    if isinstance(value, dict):
        for one in list(value.values()):
            spoil(one)
        value["spoilt"] = "spoilt"
    if isinstance(value, list):
        value.reverse()
        value.append("spoilt")


def error_of(function, args, by_name=None):
    """The error that a call raises, None if it raises none of the package's."""
    try:
        function(*args, **(by_name or {}))
    except FriendError as error:
        return error
    return None
