"""Points [112] to [115]: scripts."""

import copy
import random
import unittest

from evenfriends.companies import Company
from evenfriends.errors import FriendError, InvalidHouse, InvalidScript, InvalidText
from evenfriends.house import House
from evenfriends.scripts import end_of, play, read_script, script_text, shortened
from tests import calls, support
from tests.plain import EVEN, MANNERS, ODD, TIES_ODD
from tests.test_house import some_command, some_company
from tests.test_papers import bent_ones, plain_company, plain_wishes

ABC = ["a", "b", "c"]


def some_script(chance, many, depth):
    """A script of at most so many commands, those within tries counted."""
    script = []
    while many > 0:
        kind = chance.random()
        if kind < 0.15 and depth > 0:
            inner = some_script(chance, chance.randint(0, many - 1), depth - 1)
            script.append(("try", inner))
            many -= 1 + size_of(inner)
            continue
        if kind < 0.3:
            script.append((chance.choice(["lets", "met"]), chance.choice([0, 1, 7])))
        elif kind < 0.45 or not script:
            script.append(("put", some_company(chance, chance.choice([["a"], ["a", "b"], ABC])), chance.choice(MANNERS)))
        else:
            word, things = some_command(chance, [0, 1])
            script.append((word, *things))
        many -= 1
    return script


def size_of(script):
    return sum(1 + (size_of(command[1]) if command[0] == "try" else 0) for command in script)


def plainly_played(house, script):
    """What is said, by calling the methods one by one."""
    said = []
    for word, *things in script:
        if word == "try":
            with house.trial():
                said.append(("tried", plainly_played(house, things[0])))
            continue
        try:
            answer = getattr(house, {"met": "is_met"}.get(word, word))(*things)
        except FriendError as error:
            said.append(("refused", type(error).__name__))
            continue
        said.append((word, answer) if word in ["put", "deed", "lets", "met"] else ("done",))
    return said


def plain_text(script, depth=0):
    """The lines of a script, by the words."""
    lines = []
    for word, *things in script:
        pieces, block = [word], None
        for thing in things:
            if isinstance(thing, Company):
                block = plain_company(thing).split("\n")
            elif isinstance(thing, dict):
                block = plain_wishes(thing).split("\n") if thing else []
            elif isinstance(thing, list):
                block = plain_text(thing)
            elif isinstance(thing, int):
                pieces.append(str(thing))
            elif isinstance(thing, str):
                pieces.append(thing)
            elif isinstance(thing[0], tuple):
                pieces += [str(number) for number in thing[0]] + [thing[1]]
            else:
                pieces += thing
        lines.append(" ".join(pieces))
        if block is not None:
            lines += ["  " + line for line in block] + ["end"]
    return lines


def end_by_hand(script):
    house = House()
    plainly_played(house, script)
    return {spot: (house.company_there(spot), house.manner_there(spot), house.wishes_there(spot)) for spot in house.spots()}


class Play(unittest.TestCase):
    def test_said_and_done(self):
        chance = random.Random(1)
        words = set()
        for _ in range(120):
            script = some_script(chance, 12, 4)
            house, other = House(), House()
            before = support.frozen(script)
            said = play(house, script)
            self.assertEqual(support.frozen(said), support.frozen(plainly_played(other, script)))
            self.assertEqual(support.house_told(house), support.house_told(other))
            self.assertEqual(support.frozen(script), before)
            words.update(one[1] for one in said if one[0] == "refused")
        self.assertLessEqual({"Refused", "InvalidSpot", "InvalidPair", "NothingToUndo", "NothingToRedo"}, words)

    def test_a_day(self):
        house = House()
        said = play(house, calls.a_day())
        self.assertEqual(said, [
            ("put", 0), ("put", 1), ("done",), ("lets", [("a", "b"), ("a", "c"), ("b", "c")]), ("met", True), ("deed", True),
            ("done",), ("done",), ("done",),
            ("tried", [
                ("done",), ("tried", [("refused", "InvalidSpot"), ("done",)]), ("done",), ("tried", []),
            ]),
            ("done",), ("done",), ("done",), ("done",), ("refused", "InvalidSpot"),
        ])
        self.assertEqual(len(said), 15)
        self.assertEqual(house.spots(), [0, 1])

    def test_refusals_by_the_names_of_their_classes(self):
        ab, pair = Company(["a", "b"], []), ("a", "b")
        triangle = Company(ABC, [("a", "b"), ("a", "c"), ("b", "c")])
        script = [
            ("undo",), ("redo",), ("put", ab, EVEN), ("put", Company(ABC, []), EVEN), ("put", triangle, EVEN), ("take", 9),
            ("deed", 0, ("a", "c")), ("deed", 2, pair), ("wish", 0, {("a", "c"): True}), ("unwish", 0), ("guest", 0, "a"),
            ("leave", 0, "c"), ("exchange", 0, triangle), ("exchange", 1, triangle), ("swap", 0, 0), ("swap", 0, 1),
            ("swap", 1, 2), ("met", 9), ("lets", 9), ("wish", 2, {pair: False}), ("to_manner", 9, EVEN),
        ]
        said = play(House(), script)
        self.assertEqual([one[1] for one in said if one[0] == "refused"], [
            "NothingToUndo", "NothingToRedo", "InvalidSpot", "InvalidPair", "Refused", "InvalidWishes", "Refused",
            "InvalidPerson", "InvalidPerson", "Unlike", "Apart", "InvalidSpot", "Unlike", "Apart", "InvalidSpot",
            "InvalidSpot", "Refused", "InvalidSpot",
        ])

    def test_tries_leave_the_house(self):
        house = support.a_house()
        told = support.house_told(house)
        script = [("try", [("undo",), ("undo",), ("take", 0), ("try", [("take", 1), ("undo",), ("redo",)]), ("redo",)])]
        for _ in range(2):
            said = play(house, script)
            self.assertEqual(said[0][1][2:], [("done",), ("tried", [("refused", "InvalidSpot"), ("done",), ("done",)]), ("refused", "NothingToRedo")])
            self.assertEqual(support.house_told(house), told)

    def test_said_is_new(self):
        house = House()
        play(house, [("put", Company(ABC, []), EVEN)])
        told = support.frozen(play(house, [("lets", 0)]))
        support.spoil(play(house, [("lets", 0)]))
        self.assertEqual(support.frozen(play(house, [("lets", 0)])), told)

    def test_wishes_of_the_script_stay_its_own(self):
        house, wishes = House(), {("a", "b"): True}
        play(house, [("put", Company(ABC, []), EVEN), ("wish", 0, wishes)])
        wishes.clear()
        self.assertEqual(house.wishes_there(0), {("a", "b"): True})

    def test_by_name_and_wrong(self):
        house = House()
        self.assertEqual(play(script=[("put", Company(["a"], []), EVEN)], house=house), [("put", 0)])
        told = support.house_told(house)
        for wrong in calls.a_script().wrongs():
            for script in [wrong, [("take", 0), ("try", wrong)]]:
                with self.assertRaises(InvalidScript) as caught:
                    play(house, script)
                self.assertIs(caught.exception.value, script)
        for wrong in calls.a_house().wrongs():
            with self.assertRaises(InvalidHouse) as caught:
                play(wrong, None)
            self.assertIs(caught.exception.value, wrong)
        self.assertEqual(support.house_told(house), told)


class Texts(unittest.TestCase):
    def test_back_and_forth(self):
        chance = random.Random(2)
        for _ in range(150):
            script = some_script(chance, 12, 4)
            text = script_text(script)
            self.assertEqual(text, "\n".join(plain_text(script)))
            told = read_script(text)
            self.assertEqual(told, script)
            self.assertEqual(support.frozen(told), support.frozen(in_order(script)))

    def test_a_day(self):
        text = script_text(calls.a_day())
        self.assertEqual(text.split("\n")[:14], [
            "put 2 even", "  a b c", "  a b", "end", "put 0 2 odd", "  a b c", "  a c", "  b c", "end", "wish 0",
            "  a b friends", "  b c strangers", "end", "lets 0",
        ])
        self.assertEqual(read_script(text), calls.a_day())

    def test_people_called_like_words(self):
        people = ["end", "friends", "put", "stranger", "try", "undo"]
        odd = Company(people, [("end", "friends"), ("put", "try"), ("try", "undo")])
        script = [
            ("try", [("put", Company(["end"], []), ((), "odd")), ("try", [("exchange", 0, odd), ("guest", 0, "end")]), ("undo",)]),
            ("put", odd, ((0, 1, 2), "even")), ("wish", 0, {("end", "try"): True, ("friends", "stranger"): False}),
            ("leave", 0, "try"), ("deed", 0, ("end", "put")), ("try", []), ("wish", 10 ** 29, {}), ("to_manner", 0, ((), "even")),
        ]
        text = script_text(script)
        self.assertEqual(text, "\n".join(plain_text(script)))
        self.assertEqual(read_script(text), script)
        self.assertIn("  put odd\n    end\n  end\n", text)

    def test_four_tries_deep(self):
        script = [("try", [("try", [("try", [("try", [("wish", 0, {("a", "b"): True}), ("undo",)])])]), ("redo",)])]
        text = script_text(script)
        lines = ["try", "  try", "    try", "      try", "        wish 0", "          a b friends", "        end", "        undo"]
        lines += ["      end", "    end", "  end", "  redo", "end"]
        self.assertEqual(text.split("\n"), lines)
        self.assertEqual(read_script(text), script)

    def test_no_commands(self):
        self.assertEqual((script_text([]), read_script("")), ("", []))
        self.assertEqual((script_text([("try", [])]), read_script("try\nend")), ("try\nend", [("try", [])]))

    def test_bent_texts(self):
        chance = random.Random(3)
        met = [0, 0]
        for _ in range(40):
            for text in bent_ones(chance, script_text(some_script(chance, 8, 3)), 12):
                try:
                    told = read_script(text)
                except InvalidText as error:
                    self.assertIs(error.value, text)
                    met[0] += 1
                    continue
                self.assertEqual(script_text(told), text)
                met[1] += 1
        self.assertGreater(met[0], 2000)
        self.assertGreater(met[1], 20)

    def test_texts_of_no_script(self):
        for text in [
            "undo ", " undo", "undo 0", "undo\n", "\nundo", "undo\n\nredo", "Undo", "end", "try", "try\n", "try\n  undo",
            "try\nundo\nend", "try\n undo\nend", "try\n   undo\nend", "try\n  end", "try\n  end\nend\nend", "take", "take 00",
            "take 01", "take -1", "take +1", "take 1 ", "take  1", "take a", "take 0 1", "deed 0 a", "deed 0 b a", "deed a b",
            "deed 0 a b c", "lets 0\nend", "wish 0", "wish 0\n  a b\nend", "wish 0\n  b a friends\nend", "wish 0\nend x",
            "wish 0\n  a c friends\n  a b friends\nend", "wish 0\n  a b friends\n  a b friends\nend", "wish\nend",
            "put 2 even\nend", "put 2 even\n  b a\nend", "put 2 even\n  a b\n  b a\nend", "put even 2\n  a\nend", "put\n  a\nend",
            "put 2 2 even\n  a\nend", "put 2 1 even\n  a\nend", "put 3 even\n  a\nend", "put 02 even\n  a\nend",
            "put 2 Even\n  a\nend", "put 2\n  a\nend", "put 2 even\n  a\n end", "put 2 even\n   a\nend", "put 2 even\na\nend",
            "put 2 even\n  a\n", "put 2 even\n  a\n\nend", "exchange\n  a\nend", "exchange 0 1\n  a\nend", "to_manner 0",
            "to_manner 0 2", "to_manner 2 even even", "to_manner even", "guest 0 A", "guest 0", "guest a 0", "swap 0", "swap 0 1 2",
            "put 2 even \n  a\nend", "try \nend", "undo\r\nredo", "undo\tredo", "is_met 0", "play", "met 0 0", "a b",
        ]:
            with self.assertRaises(InvalidText) as caught:
                read_script(text)
            self.assertIs(caught.exception.value, text, text)

    def test_counts_in_figures(self):
        for spot in [0, 7, 10, 10 ** 29, 10 ** 30 - 1]:
            self.assertEqual(script_text([("take", spot)]), "take " + str(spot))
            self.assertEqual(read_script("take " + str(spot)), [("take", spot)])

    def test_scripts_without_texts(self):
        for wrong in calls.a_script().wrongs():
            for call in [script_text, end_of, shortened]:
                with self.assertRaises(InvalidScript) as caught:
                    call(wrong)
                self.assertIs(caught.exception.value, wrong)


def in_order(script):
    """A script with the pairs of its wishes ascending."""
    found = []
    for command in script:
        if command[0] == "wish":
            command = command[:2] + (dict(sorted(command[2].items())),)
        if command[0] == "try":
            command = ("try", in_order(command[1]))
        found.append(command)
    return found


class Ends(unittest.TestCase):
    def test_end_of(self):
        chance = random.Random(4)
        for _ in range(120):
            script = some_script(chance, 12, 3)
            told = end_of(script)
            self.assertEqual(support.frozen(told), support.frozen(end_by_hand(script)))
            self.assertEqual(list(told), sorted(told))
        self.assertEqual(end_of([]), {})
        self.assertEqual(end_of([("try", [("put", Company(["a"], []), EVEN)]), ("undo",)]), {})

    def test_wishes_at_the_end(self):
        abc = Company(ABC, [])
        script = [("put", abc, EVEN), ("put", abc, ODD), ("take", 0), ("put", abc, TIES_ODD), ("put", abc, EVEN), ("wish", 3, {("b", "c"): False, ("a", "b"): True})]
        told = end_of(script)
        self.assertEqual(list(told), [1, 2, 3])
        self.assertEqual(list(told[3][2].items()), [(("a", "b"), True), (("b", "c"), False)])
        self.assertIsNone(told[1][2])
        told[3][2].clear()
        self.assertEqual(len(end_of(script)[3][2]), 2)

    def test_shortened(self):
        chance = random.Random(5)
        shorter = 0
        for _ in range(60):
            script = some_script(chance, chance.randint(0, 10), 3)
            before = support.frozen(script)
            left = list(script)
            for at in range(len(script) - 1, -1, -1):
                fewer = left[:at] + left[at + 1:]
                if support.frozen(end_by_hand(fewer)) == support.frozen(end_by_hand(script)):
                    left = fewer
            told = shortened(script)
            self.assertEqual(support.frozen(told), support.frozen(left))
            self.assertEqual(support.frozen(script), before)
            self.assertEqual(support.frozen(end_of(told)), support.frozen(end_of(script)))
            shorter += len(told) < len(script)
        self.assertGreater(shorter, 20)
        self.assertEqual(shortened([]), [])
        self.assertEqual(shortened([("try", []), ("undo",), ("lets", 0), ("take", 5)]), [])

    def test_tries_are_one_command_and_are_left_out(self):
        one = Company(["a"], [])
        script = [("try", [("put", one, EVEN)]), ("put", one, ODD), ("try", [("take", 0)])]
        self.assertEqual(shortened(script), [("put", one, ODD)])

    def test_what_is_left_is_new(self):
        wishes = {("b", "c"): True, ("a", "b"): True}
        script = [("put", Company(ABC, []), EVEN), ("wish", 0, wishes)]
        told = shortened(script)
        self.assertEqual(told, script)
        told[1][2].clear()
        told.clear()
        self.assertEqual((len(script), len(wishes)), (2, 2))
        self.assertEqual(len(shortened(script)), 2)
        other = copy.deepcopy(script)
        told = shortened(other)
        wishes_of = other[1][2]
        wishes_of.clear()
        self.assertEqual(len(told[1][2]), 2)


if __name__ == "__main__":
    unittest.main()
