"""The kinds of values: each function accepts any value."""

from crewbook.crewsets import first_inside, is_ascending

MOST_LETTERS = 8


def is_number(thing):
    # A bool is an int for Python, but True is not 1 here.
    return isinstance(thing, int) and not isinstance(thing, bool) and thing >= 0


def is_name(thing):
    if not isinstance(thing, str) or not 1 <= len(thing) <= MOST_LETTERS:
        return False
    # islower() would let letters of other alphabets pass.
    return all(["a" <= letter <= "z" for letter in thing])


def is_set(thing):
    return is_tuple_of_names(thing) and is_ascending(thing)


def is_crews(thing):
    if not is_tuple_of_name_tuples(thing) or not thing:
        return False
    if not all([crew and is_ascending(crew) for crew in thing]):
        return False
    return is_ascending(thing) and first_inside(thing) is None


def is_same(one, other):
    """Return whether two values are equal, and all their parts of the same kinds."""
    if isinstance(one, (tuple, list)) and one == other:
        return all([is_same(part, match) for part, match in zip(one, other)])
    return isinstance(one, bool) == isinstance(other, bool) and one == other


def is_marked(thing, word, length):
    """Return whether any value is a tuple of this length that begins with the word."""
    return isinstance(thing, tuple) and len(thing) == length and thing[0] == word


def is_tuple_of_names(thing):
    return isinstance(thing, tuple) and all([is_name(name) for name in thing])


def is_tuple_of_name_tuples(thing):
    return isinstance(thing, tuple) and all([is_tuple_of_names(part) for part in thing])


def is_pair_of_name_tuples(thing):
    return is_tuple_of_name_tuples(thing) and len(thing) == 2
