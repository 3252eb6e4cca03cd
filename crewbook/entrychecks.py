"""The checks of the entries from which lists of crews are made."""

from crewbook.errors import InvalidPaper
from crewbook.kinds import is_name, is_number, is_set


def check_groups(groups):
    check_shape(groups, [is_group(entry) for entry in groups])
    sets = [people for number, people in groups]
    for k, (number, people) in enumerate(groups):
        if number == 0 or number > len(people):
            raise InvalidPaper("group", k)
        if meets_earlier(sets, k):
            raise InvalidPaper("twice", k)


def check_posts(posts):
    check_shape(posts, [is_set(post) for post in posts])
    for k, post in enumerate(posts):
        if not post:
            raise InvalidPaper("post", k)


def check_ties(ties):
    check_shape(ties, [is_tie(entry) for entry in ties])
    for k, (person, end, other) in enumerate(ties):
        if end == other or k > 0 and not ties[k - 1][0] < person:
            raise InvalidPaper("tie", k)


def check_apart(sets):
    for k in range(len(sets)):
        if meets_earlier(sets, k):
            raise InvalidPaper("twice", k)


def meets_earlier(sets, k):
    """Return whether set k has one of the people of an earlier one."""
    return any([person in earlier for earlier in sets[:k] for person in sets[k]])


def check_shape(entries, fitting):
    if not all(fitting):
        raise InvalidPaper("shape", -1)
    if not entries:
        raise InvalidPaper("empty", -1)


def is_group(entry):
    return isinstance(entry, tuple) and len(entry) == 2 and is_number(entry[0]) and is_set(entry[1])


def is_tie(entry):
    return isinstance(entry, tuple) and len(entry) == 3 and all([is_name(name) for name in entry])
