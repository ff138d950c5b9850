"""Points [116] to [120]: texts."""

import itertools
import random
import unittest

from evenfriends.clubs import Table
from evenfriends.companies import Company
from evenfriends.errors import (
    InvalidChange, InvalidCompanies, InvalidCompany, InvalidRoad, InvalidTable, InvalidText, InvalidWishes,
)
from evenfriends.papers import (
    change_text, companies_text, company_text, read_change, read_companies, read_company, read_road, read_table,
    read_wishes, road_text, table_text, wishes_text,
)
from tests import calls, support

NINE = ["a", "aa", "abcdefgh", "end", "friends", "put", "stranger", "try", "z"]
SIGNS = "ab z0\n A\t~"


def some_company(chance):
    people = chance.sample(NINE, chance.randint(1, 9))
    pairs = [pair for pair in itertools.combinations(sorted(people), 2) if chance.random() < chance.choice([0.1, 0.9])]
    chance.shuffle(pairs)
    return Company(people, pairs)


def some_table(chance):
    people, clubs = chance.sample(NINE, chance.randint(1, 5)), chance.sample(NINE, chance.randint(1, 5))
    places = [place for place in itertools.product(people, clubs) if chance.random() < 0.5]
    chance.shuffle(places)
    return Table(people, clubs, places)


def some_pairs(chance):
    pairs = list(itertools.combinations(NINE, 2))
    return [chance.choice(pairs) for _ in range(chance.randint(0, 6))]


def some_wishes(chance):
    return {pair: chance.random() < 0.5 for pair in some_pairs(chance)}


def some_change(chance):
    word = chance.choice(["come", "leave", "befriend", "part"])
    return word, chance.choice(NINE) if word in ["come", "leave"] else chance.choice(list(itertools.combinations(NINE, 2)))


# The texts once more, by the words.
def plain_company(company):
    return "\n".join([" ".join(company.people())] + [f"{one} {other}" for one, other in company.friends()])


def plain_table(table):
    lines = [" ".join(table.people()), " ".join(table.clubs())] + [f"{person} {club}" for person, club in table.members()]
    return "\n".join(lines)


def plain_wishes(wishes):
    return "\n".join([f"{one} {other} {'friends' if wish else 'strangers'}" for (one, other), wish in sorted(wishes.items())])


def plain_change(change):
    word, thing = change
    return f"{word} {thing}" if isinstance(thing, str) else f"{word} {thing[0]} {thing[1]}"


# Writers, readers, what is written, and its text by the words.
PAPERS = [
    (company_text, read_company, some_company, plain_company),
    (
        companies_text, read_companies, lambda chance: [some_company(chance) for _ in range(chance.randint(0, 4))],
        lambda lot: "\n\n".join(plain_company(company) for company in lot),
    ),
    (change_text, read_change, some_change, plain_change),
    (road_text, read_road, some_pairs, lambda road: "\n".join(f"{one} {other}" for one, other in road)),
    (wishes_text, read_wishes, some_wishes, plain_wishes),
    (table_text, read_table, some_table, plain_table),
]


def bent_ones(chance, text, many):
    """Texts that are unlike one in one place: a sign or a line left out, put in, exchanged or twice."""
    found = [text + "\n", "\n" + text, text + " ", " " + text, text.upper(), text.replace("\n", "\n\n"), text.replace(" ", "  ")]
    lines = text.split("\n")
    for _ in range(many):
        at, line = chance.randint(0, len(text)), chance.randrange(len(lines))
        sign = chance.choice(SIGNS)
        found += [text[:at] + sign + text[at:], text[:at] + text[at + 1:], text[:at] + sign + text[at + 1:]]
        found += ["\n".join(lines[:line] + lines[line + 1:]), "\n".join(lines[:line] + lines[line:][:1] + lines[line:])]
        found += ["\n".join(lines[:line] + lines[line:][::-1]), text[:at]]
        pieces = lines[line].split(" ")
        found.append("\n".join(lines[:line] + [" ".join(pieces[::-1])] + lines[line + 1:]))
    return [one for one in found if one != text]


class BackAndForth(unittest.TestCase):
    def test_written_and_read(self):
        chance = random.Random(1)
        for writer, reader, some, plainly in PAPERS:
            for _ in range(40):
                thing = some(chance)
                text = writer(thing)
                self.assertIs(type(text), str)
                self.assertEqual(text, plainly(thing))
                told = reader(text)
                self.assertEqual(told, thing)
                if isinstance(thing, dict):
                    self.assertEqual(list(told.items()), sorted(thing.items()))
                else:
                    self.assertEqual(support.frozen(told), support.frozen(thing))

    def test_bent_texts(self):
        chance = random.Random(2)
        for writer, reader, some, _ in PAPERS:
            met = [0, 0]
            for _ in range(30):
                for text in bent_ones(chance, writer(some(chance)), 12):
                    met[self.is_read(writer, reader, text)] += 1
            self.assertGreater(met[0], 1000)
            self.assertGreater(met[1], 10)

    def is_read(self, writer, reader, text):
        """A text is either none, or it is just what the writer makes of what is read."""
        try:
            told = reader(text)
        except InvalidText as error:
            self.assertIs(error.value, text)
            return 0
        self.assertEqual(writer(told), text)
        return 1

    def test_any_object_is_read_or_none(self):
        for writer, reader, _, _ in PAPERS:
            for value in support.any_objects():
                if isinstance(value, str):
                    self.is_read(writer, reader, value)
                else:
                    with self.assertRaises(InvalidText) as caught:
                        reader(value)
                    self.assertIs(caught.exception.value, value)

    def test_what_is_read_is_new(self):
        for reader, text in [(read_companies, "a\n\nb"), (read_road, "a b"), (read_wishes, "a b friends")]:
            told = support.frozen(reader(text))
            support.spoil(reader(text))
            self.assertEqual(support.frozen(reader(text)), told)


class Edges(unittest.TestCase):
    def test_empty_lists(self):
        self.assertEqual((companies_text([]), read_companies("")), ("", []))
        self.assertEqual((road_text([]), read_road("")), ("", []))
        self.assertEqual((wishes_text({}), read_wishes("")), ("", {}))
        for reader in [read_company, read_change, read_table]:
            with self.assertRaises(InvalidText):
                reader("")

    def test_small_ones(self):
        self.assertEqual(company_text(Company(["z"], [])), "z")
        self.assertEqual(read_company("a z\na z"), Company(["a", "z"], [("a", "z")]))
        self.assertEqual(table_text(Table(["a"], ["a"], [])), "a\na")
        self.assertEqual(read_table("a\na\na a"), Table(["a"], ["a"], [("a", "a")]))
        self.assertEqual(read_companies("a\n\na"), [Company(["a"], []), Company(["a"], [])])
        self.assertEqual(read_change("come come"), ("come", "come"))
        self.assertEqual(read_change("befriend come part"), ("befriend", ("come", "part")))
        self.assertEqual(read_wishes("end friends friends"), {("end", "friends"): True})

    def test_texts_of_no_thing(self):
        for reader, texts in [
            (read_company, ["b a", "a a", "a b\nb a", "a b\na b\na b", "a b c\nb c\na b", "a\nb", "a\n", "\na", "a b\na c", "A",
                            "a  b", "a b\na b ", "a b\n\na b", "abcdefghi", "a b\na", "a b\na b c", "a\tb"]),
            (read_companies, ["\n", "\n\n", "a\n\n", "\n\na", "a\n\n\nb", "a\n\n\n\nb", "a\nb", "b a\n\na"]),
            (read_change, ["come", "come ", "come a b", "come A", "part a", "part b a", "part a b c", "befriend a a", "go a",
                           " come a", "come a\n", "a", "Come a", "leave  a"]),
            (read_road, ["a", "a b c", "b a", "a a", "a b\n", "\na b", "a b\n\na b", "a  b", " a b", "a b ", "A b"]),
            (read_wishes, ["a b", "a b Friends", "b a friends", "a b friends\na b friends", "a b friends\na b strangers",
                           "a c friends\na b friends", "a b friends ", "a b True", "a friends", "a b c friends", "\n"]),
            (read_table, ["a", "a\n", "\na", "a\nx\nx a", "b a\nx", "a\ny x", "a\nx\na x\na x", "a b\nx\nb x\na x", "a\nx\na",
                          "a\nx\n", "a\nx\n\na x", "a a\nx", "a\nx\na y", "a\n\nx", "A\nx"]),
        ]:
            for text in texts:
                with self.assertRaises(InvalidText) as caught:
                    reader(text)
                self.assertIs(caught.exception.value, text)

    def test_things_without_texts(self):
        for writer, error, wrongs in [
            (company_text, InvalidCompany, ["a", None, Table(["a"], ["a"], [])]), (table_text, InvalidTable, [Company(["a"], []), None]),
            (companies_text, InvalidCompanies, [(), Company(["a"], []), [None], [[]]]), (change_text, InvalidChange, calls.WRONG_FORMS),
            (road_text, InvalidRoad, [(), [["a", "b"]], [("b", "a")], None, ("a", "b"), [("a", "b"), ("a", "a")]]),
            (wishes_text, InvalidWishes, calls.WRONG_WISHES),
        ]:
            for wrong in wrongs:
                with self.assertRaises(error) as caught:
                    writer(wrong)
                self.assertIs(caught.exception.value, wrong)

    def test_great_texts(self):
        people = [one + other for one in "abcde" for other in "vwxyz"][:9]
        company = Company(people, list(itertools.combinations(people, 2)))
        self.assertEqual(read_company(company_text(company)), company)
        road = list(itertools.combinations(people, 2)) * 11
        self.assertEqual(read_road(road_text(road)), road)
        long = "x" * 400
        for reader in [read_company, read_companies, read_change, read_road, read_wishes, read_table]:
            with self.assertRaises(InvalidText):
                reader("\n".join([long] * 100))


if __name__ == "__main__":
    unittest.main()
