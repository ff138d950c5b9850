"""Manners: which third people of a pair are counted, and whether their number has to be even or odd."""

from itertools import combinations

from evenfriends.companies import Company, check_company, check_pair_of, is_pair_of, turned
from evenfriends.errors import InvalidCount, InvalidManner, InvalidPair, InvalidPairs, InvalidTally
from evenfriends.forms import are_numbers_below, is_ascending, is_count, word_at
from evenfriends.rows import counted_bits, deeds_of, let_in, lets, members, road_of, rows_of
from evenfriends.triples import FRIENDSHIPS, KINDS, triple_numbers

WORDS = ("even", "odd")
LETS_NONE = ((), "odd")


def is_manner(value):
    """Return whether any object is a manner."""
    if not isinstance(value, tuple) or len(value) != 2:
        return False
    return are_numbers_below(value[0], len(KINDS)) and value[1] in WORDS


def check_manner(manner):
    """Raise InvalidManner unless any object is a manner."""
    if not is_manner(manner):
        raise InvalidManner(manner)


def check_many(many):
    """Raise InvalidCount unless any object is a count from 1 on."""
    if not is_count(many) or many == 0:
        raise InvalidCount(many)


def subsets(end):
    """Return the ascending list of the ascending tuples of unlike counts below a small number."""
    return sorted([lot for size in range(end + 1) for lot in combinations(range(end), size)])


def all_manners():
    """Return the ascending list of all sixteen manners."""
    return [(kinds, word) for kinds in subsets(len(KINDS)) for word in WORDS]


def pairs_let(company, manner):
    """Return the ascending list of the pairs of a company that are let under a manner."""
    return road_of(company.people(), let_in(rows_of(company), manner))


def is_pair_let(company, manner, pair):
    """Tell whether a pair of a company is let under a manner."""
    deeds = deeds_of(company.people(), [pair])
    return lets(rows_of(company), manner, deeds[0])


def counted_people(company, manner, pair):
    """Return the ascending list of the third people of a pair whose kind a manner counts."""
    check_company(company)
    check_manner(manner)
    check_pair_of(company, pair)
    people = company.people()
    deeds = deeds_of(people, [pair])
    return [people[at] for at in members(counted_bits(rows_of(company), manner[0], deeds[0]))]


def is_let(company, manner, pair):
    """Return whether a pair is let under a manner."""
    check_company(company)
    check_manner(manner)
    check_pair_of(company, pair)
    return is_pair_let(company, manner, pair)


def let_pairs(company, manner):
    """Return the ascending list of the pairs that are let under a manner."""
    check_company(company)
    check_manner(manner)
    return pairs_let(company, manner)


def are_ascending_pairs(company, value):
    """Tell whether any object is an ascending list of pairs of a company's people."""
    if not isinstance(value, list):
        return False
    people = company.people()
    return all([is_pair_of(people, pair) for pair in value]) and is_ascending(value)


def manners_letting(company, pairs):
    """Return the ascending list of the manners under which just the pairs of a list are let."""
    check_company(company)
    if not are_ascending_pairs(company, pairs):
        raise InvalidPairs(pairs)
    return [manner for manner in all_manners() if pairs_let(company, manner) == pairs]


def is_tally(value):
    """Tell whether any object is a tally: some numbers of friendships, and whether friendships count too."""
    if not isinstance(value, tuple) or len(value) != 2:
        return False
    return are_numbers_below(value[0], len(FRIENDSHIPS)) and isinstance(value[1], bool)


def keeps(manner, tally):
    """Tell whether every deed under a manner leaves the parity of a tally as it is."""
    kinds, word = manner
    numbers, with_friends = tally
    # A third person of these kinds moves its triple into the numbers, or out of them.
    moved = tuple([kind for kind in KINDS if (kind in numbers) != ((kind + 1) in numbers)])
    if manner == LETS_NONE or (moved == () and not with_friends):
        return True
    return moved == kinds and with_friends == (word == "odd")


def is_kept(manner, value):
    """Return whether any object is a tally whose parity every deed under a manner leaves as it is."""
    check_manner(manner)
    return is_tally(value) and keeps(manner, value)


def kept_counts(manner):
    """Return the ascending list of the tallies whose parity every deed under a manner leaves as it is."""
    check_manner(manner)
    tallies = [(numbers, flag) for numbers in subsets(len(FRIENDSHIPS)) for flag in (False, True)]
    return [tally for tally in tallies if keeps(manner, tally)]


def parity_of(company, tally):
    """Return 0 or 1, the rest of a tally by two at a company."""
    check_company(company)
    if not is_tally(tally):
        raise InvalidTally(tally)
    numbers, with_friends = tally
    found = triple_numbers(company)
    total = sum([found[number] for number in numbers])
    if with_friends:
        total += len(company.friends())
    return total % 2


def contrary(manner, many):
    """Return the manner with the other kinds that lets the same for so many people, from three on."""
    kinds, word = manner
    others = tuple([kind for kind in KINDS if kind not in kinds])
    # All third people together are as many as the people, by parity.
    if many % 2 == 0:
        return (others, word)
    return (others, "even" if word == "odd" else "odd")


def let_alike(one, other, many):
    """Tell whether two manners let the same pairs at every company of so many people."""
    if many == 1 or one == other:
        return True
    if many == 2:
        return one[1] == other[1]
    return contrary(one, many) == other


def are_alike(one, other, many):
    """Return whether two manners let the same pairs at every company of so many people."""
    check_manner(one)
    check_manner(other)
    check_many(many)
    return let_alike(one, other, many)


def alike_manners(manner, many):
    """Return the ascending list of the manners that are alike a manner for so many people, it too."""
    check_manner(manner)
    check_many(many)
    return [other for other in all_manners() if let_alike(manner, other, many)]


def parting_company(one, other, many):
    """Return a company of so many people at which two manners let unlike pairs, None if there is none."""
    check_manner(one)
    check_manner(other)
    check_many(many)
    if let_alike(one, other, many):
        return None
    people = [word_at(at) for at in range(many)]
    # The pair of the first two: all third people of kind 0, or all but one, who is of kind 1 or 2.
    for friends in ([], [("a", "c")], [("a", "c"), ("b", "c")]):
        company = Company(people, friends)
        if pairs_let(company, one) != pairs_let(company, other):
            return company
    return None


def is_parting_company(one, other, many, value):
    """Return whether any object is a company of so many people at which two manners let unlike pairs."""
    check_manner(one)
    check_manner(other)
    check_many(many)
    if not isinstance(value, Company) or len(value.people()) != many:
        return False
    return pairs_let(value, one) != pairs_let(value, other)


def opposite_manner(manner):
    """Return the manner that lets at the opposite company the pairs that this one lets at the company."""
    check_manner(manner)
    kinds, word = manner
    return (tuple(sorted([2 - kind for kind in kinds])), word)


def real_manner(manner, many):
    """Return the real manner for so many people, and whether it is to be asked at the opposite company."""
    check_manner(manner)
    check_many(many)
    plain = manner if len(manner[0]) < 2 else contrary(manner, many)
    if plain[0] == (0,):
        return ((2,), plain[1]), True
    return plain, False


def lets_always(manner, many, word):
    """Tell whether every pair is let at every company of so many people, or, for "odd", none ever."""
    kinds, real_word = real_manner(manner, many)[0]
    return many == 1 or (real_word == word and (many == 2 or kinds == ()))


def lets_all(manner, many):
    """Return whether all pairs are let at every company of so many people."""
    check_manner(manner)
    check_many(many)
    return lets_always(manner, many, "even")


def lets_none(manner, many):
    """Return whether no pair is let at any company of so many people."""
    check_manner(manner)
    check_many(many)
    return lets_always(manner, many, "odd")


def let_number(company, manner):
    """Return how many pairs are let under a manner."""
    check_company(company)
    check_manner(manner)
    return len(pairs_let(company, manner))


def freed_by(company, manner, pair):
    """Return how many more pairs than before are let if a pair that is let is changed."""
    check_company(company)
    check_manner(manner)
    check_pair_of(company, pair)
    if not is_pair_let(company, manner, pair):
        raise InvalidPair(pair)
    return len(pairs_let(turned(company, pair), manner)) - len(pairs_let(company, manner))
