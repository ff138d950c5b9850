"""The blocks of examples of the document, with the answers that stand there."""

import unittest

from tests import support

SECTION_3 = '''
from evenfriends.companies import Company, are_friends, changed, company_at, company_number, cone, cut_to, friend_numbers, friends_of, opposite, renamed, side_by_side, strangers
square = Company(["d", "c", "b", "a"], [("c", "d"), ("b", "c"), ("a", "b"), ("a", "d")])
[square.people(), square.friends(), strangers(square), friends_of(square, "a"), are_friends(square, ("a", "c")), friend_numbers(square)]
# [['a', 'b', 'c', 'd'], [('a', 'b'), ('a', 'd'), ('b', 'c'), ('c', 'd')], [('a', 'c'), ('b', 'd')], ['b', 'd'], False, {'a': 2, 'b': 2, 'c': 2, 'd': 2}]
[changed(square, ("come", "e")).people(), changed(square, ("part", ("a", "b"))).friends(), changed(square, ("leave", "a")).friends(), opposite(square).friends()]
# [['a', 'b', 'c', 'd', 'e'], [('a', 'd'), ('b', 'c'), ('c', 'd')], [('b', 'c'), ('c', 'd')], [('a', 'c'), ('b', 'd')]]
[cone(Company(["a", "c"], []), "b").friends(), side_by_side(Company(["z"], []), Company(["x", "y"], [("x", "y")])).people(), cut_to(square, ["c", "a", "b"]).friends()]
# [[('a', 'b'), ('b', 'c')], ['x', 'y', 'z'], [('a', 'b'), ('b', 'c')]]
[renamed(square, {"a": "b", "b": "a", "c": "c", "d": "d"}).friends(), company_number(square), company_at(["d", "b", "a", "c"], 45) == square]
# [[('a', 'b'), ('a', 'c'), ('b', 'd'), ('c', 'd')], 45, True]
'''

SECTION_4 = '''
from evenfriends.companies import Company
from evenfriends.triples import fork_number, forks, kind_numbers, kinds_moved, odd_friends, odd_pairs, odd_people, third_people, triple_numbers, triples_moved, triples_of
square = Company(["a", "b", "c", "d"], [("a", "b"), ("a", "d"), ("b", "c"), ("c", "d")])
bow = Company(["a", "b", "c", "d", "e"], [("a", "b"), ("a", "c"), ("a", "d"), ("a", "e"), ("b", "c"), ("d", "e")])
[third_people(bow, ("a", "b"), 2), third_people(bow, ("b", "d"), 1), kind_numbers(bow, ("a", "b")), kind_numbers(square, ("a", "c"))]
# [['c'], ['c', 'e'], [0, 2, 1], [0, 0, 2]]
[triple_numbers(bow), triples_of(bow, 3), triple_numbers(square), triples_moved(square, ("a", "c")), triples_moved(bow, ("a", "b"))]
# [[0, 4, 4, 2], [('a', 'b', 'c'), ('a', 'd', 'e')], [0, 0, 4, 0], [0, 0, -2, 2], [0, 2, -1, -1]]
[forks(bow, "b"), fork_number(bow), odd_people(bow), odd_people(square), odd_pairs(bow, 2) == odd_pairs(square, 2), len(odd_pairs(bow, 2)), odd_friends(square, "a", 1)]
# [[('a', 'c')], 10, [], [], False, 10, []]
kinds_moved(Company(["a", "b", "c"], [("a", "b")]), ("a", "b"))
# [(('a', 'c'), 'b', 1, 0), (('b', 'c'), 'a', 1, 0)]
'''

BLOCKS = [("3", SECTION_3, 4), ("4", SECTION_4, 4)]


def answers(block):
    """Carry a block out; return the list of tuples of an expression, what it gives, and what stands below it."""
    names, found, ahead = {}, [], None
    for line in block.strip().split("\n"):
        if line.startswith("# "):
            found.append((ahead, eval(ahead, names), eval(line[2:], {})))
            ahead = None
        else:
            if ahead is not None:
                exec(ahead, names)
            ahead = line
    return found


class Examples(unittest.TestCase):
    def test_all_blocks(self):
        for section, block, many in BLOCKS:
            found = answers(block)
            self.assertEqual(len(found), many, section)
            for line, told, expected in found:
                self.assertEqual(support.frozen(told), support.frozen(expected), line)


if __name__ == "__main__":
    unittest.main()
