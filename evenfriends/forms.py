"""The plain forms that several modules ask for: words, counts, lists without doubles, ascending ones."""

LONGEST_WORD = 8
LETTERS = "abcdefghijklmnopqrstuvwxyz"


def is_word(value):
    """Tell whether any object is a string of one to eight letters from a to z."""
    if not isinstance(value, str) or len(value) > LONGEST_WORD:
        return False
    return len(value) > 0 and all(["a" <= letter <= "z" for letter in value])


def is_count(value):
    """Tell whether any object is a whole number of at least 0."""
    # Python takes True and False for integers, the document does not.
    return isinstance(value, int) and not isinstance(value, bool) and value >= 0


def are_unlike(things):
    """Tell whether a list, of strings or of tuples of strings, has no doubles."""
    return len(set(things)) == len(things)


def is_ascending(things):
    """Tell whether a list or tuple of things that can be ordered is ascending, without doubles."""
    return all([one < other for one, other in zip(things, things[1:])])


def are_numbers_below(value, end):
    """Tell whether any object is an ascending tuple of unlike counts below a number."""
    if not isinstance(value, tuple) or not all([is_count(number) and number < end for number in value]):
        return False
    return is_ascending(value)


def word_at(at):
    """Return the word at a position of a, b, .., z, aa, ab, .."""
    word = LETTERS[at % 26]
    left = at // 26
    while left > 0:
        left = left - 1
        word = LETTERS[left % 26] + word
        left = left // 26
    return word
