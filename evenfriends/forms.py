"""The plain forms that several modules ask for: words, counts, lists without doubles."""

LONGEST_WORD = 8


def is_word(value):
    """Tell whether any object is a string of one to eight letters from a to z."""
    if not isinstance(value, str) or len(value) > LONGEST_WORD:
        return False
    return len(value) > 0 and all(["a" <= letter <= "z" for letter in value])


def is_count(value):
    """Tell whether any object is a whole number of at least 0."""
    # Python takes True and False for integers, the document does not.
    return isinstance(value, int) and not isinstance(value, bool) and value >= 0


def are_unlike(things):
    """Tell whether a list, of strings or of tuples of strings, has no doubles."""
    return len(set(things)) == len(things)
