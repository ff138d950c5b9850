"""The interface of the landed modules, and those rules of the language subset that a few lines can check."""

import ast
import inspect
import os
import unittest

import evenfriends
from evenfriends import companies, triples
from tests import calls

FOLDER = os.path.dirname(evenfriends.__file__)
INTERFACE = {
    "errors": [
        "FriendError", "InvalidPerson", "InvalidPeople", "InvalidPair", "InvalidPairs", "InvalidCompany",
        "InvalidCompanies",
        "InvalidChange", "InvalidChanges", "InvalidNames", "InvalidManner", "InvalidManners", "InvalidTally",
        "InvalidRoad",
        "InvalidLabels", "InvalidWishes", "InvalidCount", "InvalidTable", "InvalidClub", "InvalidPlace", "InvalidHouse",
        "InvalidSpot", "InvalidScript", "InvalidText", "InvalidLog", "Unlike", "Apart", "Refused", "NothingToUndo",
        "NothingToRedo",
    ],
    "companies": [
        "is_person", "is_pair", "Company", "strangers", "friends_of", "are_friends", "friend_numbers", "changed",
        "changed_by",
        "opposite", "cone", "side_by_side", "cut_to", "renamed", "company_at", "company_number",
    ],
    "triples": [
        "fork_number", "forks", "kind_numbers", "kinds_moved", "odd_friends", "odd_pairs", "odd_people", "third_people",
        "triple_numbers", "triples_moved", "triples_of",
    ],
}
BUILTINS = [
    "len", "range", "enumerate", "zip", "min", "max", "sum", "abs", "sorted", "reversed", "int", "str", "bool",
    "list", "tuple",
    "dict", "set", "isinstance", "ord", "repr", "any", "all", "divmod", "ValueError", "KeyError", "map", "iter",
    "next", "type",
]
LIBRARY = ["heapq", "math", "itertools", "collections"]


def files():
    found = {}
    for folder, _, names in os.walk(FOLDER):
        if os.path.basename(folder) != "__pycache__":
            for name in names:
                with open(os.path.join(folder, name), encoding="utf-8", newline="") as file:
                    found[name] = file.read()
    return found


class Interface(unittest.TestCase):
    def test_each_name_is_defined_in_its_file(self):
        trees = {name: ast.parse(text) for name, text in files().items()}
        for module, names in INTERFACE.items():
            rows = trees[module + ".py"].body
            defined = [row.name for row in rows if isinstance(row, (ast.FunctionDef, ast.ClassDef))]
            for name in names:
                self.assertEqual(defined.count(name), 1, (module, name))

    def test_the_methods_stand_in_the_class_itself(self):
        for name in ["__init__", "people", "friends", "__eq__"]:
            self.assertIn(name, vars(companies.Company))
        self.assertEqual(list(inspect.signature(companies.Company.people).parameters), ["self"])
        self.assertEqual(list(inspect.signature(companies.Company.friends).parameters), ["self"])

    def test_the_judging_functions_take_a_value(self):
        for function in [companies.is_person, companies.is_pair]:
            self.assertEqual(list(inspect.signature(function).parameters), ["value"])

    def test_all_others_are_among_the_calls_that_are_tried(self):
        tried = [(function.__module__, function.__name__) for function, _ in calls.CALLS]
        judging = ["is_person", "is_pair"]
        wanted = [("evenfriends.companies", name) for name in INTERFACE["companies"] if name not in judging]
        wanted += [("evenfriends.triples", name) for name in INTERFACE["triples"]]
        self.assertEqual(sorted(tried), sorted(wanted))
        self.assertEqual(triples.forks.__module__, "evenfriends.triples")


class Subset(unittest.TestCase):
    def test_files(self):
        for name, text in files().items():
            self.assertTrue(name.endswith(".py") and name == name.lower(), name)
            self.assertTrue(all(" " <= sign <= "~" or sign == "\n" for sign in text), name)
            lines = text.split("\n")
            self.assertLess(len(lines), 400, name)
            self.assertLessEqual(max(len(line) for line in lines), 120, name)

    def test_functions_are_short_and_plain(self):
        for name, text in files().items():
            for row in ast.walk(ast.parse(text)):
                if isinstance(row, ast.FunctionDef):
                    self.assertLessEqual(row.end_lineno - row.lineno + 1, 40, (name, row.name))
                    self.assertEqual(row.decorator_list, [], (name, row.name))

    def test_imports(self):
        for name, text in files().items():
            for row in ast.walk(ast.parse(text)):
                self.assertNotIsInstance(row, (ast.Import, ast.Global), name)
                if isinstance(row, ast.ImportFrom):
                    self.assertEqual(row.level, 0)
                    self.assertTrue(row.module in LIBRARY or row.module.startswith("evenfriends."), (name, row.module))
                    self.assertTrue(all(one.name != "*" and one.asname is None for one in row.names))

    def test_builtins_and_kinds_of_expressions(self):
        every = dir(__builtins__) if not isinstance(__builtins__, dict) else list(__builtins__)
        for name, text in files().items():
            for row in ast.walk(ast.parse(text)):
                self.assertNotIsInstance(row, (ast.GeneratorExp, ast.Div, ast.Await), name)
                if isinstance(row, ast.Name) and row.id in every:
                    self.assertIn(row.id, BUILTINS, name)
                if isinstance(row, ast.Constant):
                    self.assertNotIsInstance(row.value, (float, complex, bytes), name)
                    if isinstance(row.value, str):
                        self.assertNotIn("%", row.value, name)


if __name__ == "__main__":
    unittest.main()
