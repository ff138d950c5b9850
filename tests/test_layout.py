"""The interface of the landed modules, and those rules of the language subset that a few lines can check."""

import ast
import inspect
import os
import unittest

import evenfriends
from evenfriends import clubs, companies, house, manners, triples
from tests import calls

FOLDER = os.path.dirname(evenfriends.__file__)
INTERFACE = {
    "errors": [
        "FriendError", "InvalidPerson", "InvalidPeople", "InvalidPair", "InvalidPairs", "InvalidCompany",
        "InvalidCompanies",
        "InvalidChange", "InvalidChanges", "InvalidNames", "InvalidManner", "InvalidManners", "InvalidTally",
        "InvalidRoad",
        "InvalidLabels", "InvalidWishes", "InvalidCount", "InvalidTable", "InvalidClub", "InvalidPlace", "InvalidHouse",
        "InvalidSpot", "InvalidScript", "InvalidText", "InvalidLog", "Unlike", "Apart", "Refused", "NothingToUndo",
        "NothingToRedo",
    ],
    "companies": [
        "is_person", "is_pair", "Company", "strangers", "friends_of", "are_friends", "friend_numbers", "changed",
        "changed_by",
        "opposite", "cone", "side_by_side", "cut_to", "renamed", "company_at", "company_number",
    ],
    "triples": [
        "fork_number", "forks", "kind_numbers", "kinds_moved", "odd_friends", "odd_pairs", "odd_people",
        "third_people", "triple_numbers", "triples_moved", "triples_of",
    ],
    "manners": [
        "is_manner", "all_manners", "counted_people", "is_let", "let_pairs", "manners_letting", "is_kept",
        "kept_counts", "parity_of", "are_alike", "alike_manners", "parting_company", "is_parting_company",
        "opposite_manner", "real_manner", "lets_all", "lets_none", "let_number", "freed_by",
    ],
    "roads": [
        "is_road", "led", "companies_on", "differing_pairs", "leads_to", "road_back", "cut_short", "exchanged",
        "least_road", "same_but_order", "roads_of", "road_at", "road_place",
    ],
    "evens": [
        "odd_one", "even_mark", "joined_evenly", "even_parting", "fewest_evenly", "least_evenly",
        "is_least_evenly", "always_and_never", "lessening", "is_lessening", "even_road", "is_even_road",
        "joined_among", "grouped_evenly",
    ],
    "odds": [
        "parts_of", "odd_marks", "joined_oddly", "odd_parting", "fewest_oddly", "least_oddly", "is_least_oddly",
        "headed", "is_headed", "odd_road", "is_odd_road", "oddly_bound",
    ],
    "ties": [
        "tie_mark", "tie_joined", "tie_road", "square_road", "is_square_road", "moving_road", "is_moving_road",
        "triangle_road", "is_triangle_road",
    ],
    "anyway": [
        "joined", "road_between", "why_apart", "is_why_apart", "fewest_deeds", "shortest_road",
        "is_shortest_road", "class_of", "class_by_deeds", "deeds_to_friends", "road_to_friends",
        "is_road_to_friends", "farthest_in_class", "shared_class",
    ],
    "lones": [
        "is_lone", "some_let", "lone_halves", "crossing_labels", "are_crossing_labels", "sharing_labels",
        "are_sharing_labels", "crossing_company", "sharing_company", "are_even", "lone_parts", "strangers_lone",
        "lone_companies", "lone_at", "lone_place",
    ],
    "numbers": [
        "even_families", "untied_companies", "is_wholly_even", "is_wholly_odd", "rank_of", "even_by_rank",
        "even_count", "odd_count", "lone_count", "lone_connected", "class_count", "class_sizes", "joined_tuples",
        "tie_class", "tie_sizes",
    ],
    "wishes": [
        "are_wishes", "meets", "free_pairs", "met_with", "rest_of", "rest_sum", "are_fixed", "safe_wishes",
        "fewest_free", "least_free", "is_least_free", "fewest_in_class", "wished_company", "is_wished_company",
        "forced", "many_met", "met_at", "surplus", "fewest_for", "company_for", "is_company_for", "odd_lot",
        "is_odd_lot", "meets_all", "company_for_all", "is_company_for_all",
    ],
    "newcomers": [
        "cones_joined", "either_joined", "either_lets", "either_lone", "either_lone_number", "either_road",
        "fewest_newcomers", "freeing_number", "is_cone_of", "is_either_road", "never_free", "with_newcomers",
    ],
    "clubs": [
        "Table", "squares_of", "squares_through", "let_places", "moved", "table_behind", "is_club_road",
        "is_lone_table", "some_let_place", "lone_tables", "mark", "are_joined", "fewest_members", "least_table",
        "is_least_table", "club_road", "home_road", "many_classes", "with_club", "with_person",
    ],
    "house": ["House", "replayed"],
    "scripts": ["play", "script_text", "read_script", "end_of", "shortened"],
    "papers": [
        "company_text", "read_company", "companies_text", "read_companies", "change_text", "read_change", "road_text",
        "read_road", "wishes_text", "read_wishes", "table_text", "read_table",
    ],
}
METHODS = {
    "put": ["company", "manner"], "take": ["spot"], "spots": [], "company_there": ["spot"], "manner_there": ["spot"],
    "wishes_there": ["spot"], "deed": ["spot", "pair"], "lets": ["spot"], "wish": ["spot", "wishes"], "unwish": ["spot"],
    "is_met": ["spot"], "way": ["spot"], "is_way": ["spot", "value"], "guest": ["spot", "person"],
    "leave": ["spot", "person"], "exchange": ["spot", "company"], "to_manner": ["spot", "manner"],
    "manners_for": ["spot", "company"], "joined_spots": ["spot"], "swap": ["spot", "other"], "undo": [], "redo": [],
    "trial": [], "attempt": ["action"], "copy": [], "log": [],
}
BUILTINS = [
    "len", "range", "enumerate", "zip", "min", "max", "sum", "abs", "sorted", "reversed", "int", "str", "bool",
    "list", "tuple",
    "dict", "set", "isinstance", "ord", "repr", "any", "all", "divmod", "ValueError", "KeyError", "map", "iter",
    "next", "type",
]
LIBRARY = ["heapq", "math", "itertools", "collections"]


def files():
    found = {}
    for folder, _, names in os.walk(FOLDER):
        if os.path.basename(folder) != "__pycache__":
            for name in names:
                with open(os.path.join(folder, name), encoding="utf-8", newline="") as file:
                    found[name] = file.read()
    return found


class Interface(unittest.TestCase):
    def test_each_name_is_defined_in_its_file(self):
        trees = {name: ast.parse(text) for name, text in files().items()}
        for module, names in INTERFACE.items():
            rows = trees[module + ".py"].body
            defined = [row.name for row in rows if isinstance(row, (ast.FunctionDef, ast.ClassDef))]
            for name in names:
                self.assertEqual(defined.count(name), 1, (module, name))

    def test_the_methods_stand_in_the_class_itself(self):
        for name in ["__init__", "people", "friends", "__eq__"]:
            self.assertIn(name, vars(companies.Company))
        self.assertEqual(list(inspect.signature(companies.Company.people).parameters), ["self"])
        self.assertEqual(list(inspect.signature(companies.Company.friends).parameters), ["self"])
        for name in ["__init__", "people", "clubs", "members", "__eq__"]:
            self.assertIn(name, vars(clubs.Table))
        self.assertEqual(list(inspect.signature(clubs.Table).parameters), ["people", "clubs", "members"])
        for name, parameters in METHODS.items():
            self.assertIn(name, vars(house.House))
            told = list(inspect.signature(vars(house.House)[name]).parameters)
            self.assertEqual(told, ["self"] + parameters)
        self.assertEqual(list(inspect.signature(house.House).parameters), [])

    def test_the_judging_functions_take_a_value(self):
        for function in [companies.is_person, companies.is_pair, manners.is_manner]:
            self.assertEqual(list(inspect.signature(function).parameters), ["value"])

    def test_all_others_are_among_the_calls_that_are_tried(self):
        tried = [(function.__module__, function.__name__) for function, _ in calls.CALLS + calls.CHANGING]
        # The house's methods are tried in a file of their own.
        judging = ["is_person", "is_pair", "is_manner", "all_manners", "House"]
        modules = [module for module in INTERFACE if module != "errors"]
        wanted = [("evenfriends." + module, name) for module in modules for name in INTERFACE[module]]
        wanted = [row for row in wanted if row[1] not in judging]
        self.assertEqual(sorted(tried), sorted(wanted))
        self.assertEqual(triples.forks.__module__, "evenfriends.triples")


class Subset(unittest.TestCase):
    def test_files(self):
        for name, text in files().items():
            self.assertTrue(name.endswith(".py") and name == name.lower(), name)
            self.assertTrue(all(" " <= sign <= "~" or sign == "\n" for sign in text), name)
            lines = text.split("\n")
            self.assertLess(len(lines), 400, name)
            self.assertLessEqual(max(len(line) for line in lines), 120, name)

    def test_functions_are_short_and_plain(self):
        for name, text in files().items():
            for row in ast.walk(ast.parse(text)):
                if isinstance(row, ast.FunctionDef):
                    self.assertLessEqual(row.end_lineno - row.lineno + 1, 40, (name, row.name))
                    self.assertEqual(row.decorator_list, [], (name, row.name))
                    self.assertIsNotNone(ast.get_docstring(row) or row.name.startswith("__") or None, (name, row.name))

    def test_imports(self):
        for name, text in files().items():
            for row in ast.walk(ast.parse(text)):
                self.assertNotIsInstance(row, (ast.Import, ast.Global), name)
                if isinstance(row, ast.ImportFrom):
                    self.assertEqual(row.level, 0)
                    self.assertTrue(row.module in LIBRARY or row.module.startswith("evenfriends."), (name, row.module))
                    self.assertTrue(all(one.name != "*" and one.asname is None for one in row.names))

    def test_no_two_files_import_from_each_other(self):
        reached = {}
        for name, text in files().items():
            rows = [row for row in ast.walk(ast.parse(text)) if isinstance(row, ast.ImportFrom)]
            reached[name[:-3]] = {row.module.split(".")[1] for row in rows if row.module.startswith("evenfriends.")}
        for _ in reached:
            for name in reached:
                reached[name] = reached[name].union(*[reached[other] for other in reached[name]])
        for name in reached:
            self.assertNotIn(name, reached[name])

    def test_what_is_imported_is_used_and_keeps_its_name(self):
        for name, text in files().items():
            tree = ast.parse(text)
            rows = [row for row in tree.body if isinstance(row, ast.ImportFrom)]
            imported = [one.name for row in rows for one in row.names]
            self.assertEqual(len(imported), len(set(imported)), name)
            names = [row for row in ast.walk(tree) if isinstance(row, ast.Name)]
            self.assertLessEqual(set(imported), {row.id for row in names if isinstance(row.ctx, ast.Load)}, name)
            given = {row.id for row in names if isinstance(row.ctx, ast.Store)}
            given |= {row.arg for row in ast.walk(tree) if isinstance(row, ast.arg)}
            given |= {row.name for row in ast.walk(tree) if isinstance(row, ast.FunctionDef)}
            self.assertEqual(set(imported) & given, set(), name)

    def test_builtins_and_kinds_of_expressions(self):
        every = dir(__builtins__) if not isinstance(__builtins__, dict) else list(__builtins__)
        for name, text in files().items():
            for row in ast.walk(ast.parse(text)):
                self.assertNotIsInstance(row, (ast.GeneratorExp, ast.Div, ast.Await), name)
                if isinstance(row, ast.Name) and row.id in every:
                    self.assertIn(row.id, BUILTINS, name)
                if isinstance(row, ast.Constant):
                    self.assertNotIsInstance(row.value, (float, complex, bytes), name)
                    if isinstance(row.value, str):
                        self.assertNotIn("%", row.value, name)


if __name__ == "__main__":
    unittest.main()
