"""The checker of crews."""

from crewbook.crewsets import first_inside, is_ascending
from crewbook.errors import InvalidPaper
from crewbook.kinds import is_tuple_of_name_tuples


def lets_crews(thing):
    """Return the number of crews of any value that is crews, otherwise raise InvalidPaper."""
    if not is_tuple_of_name_tuples(thing):
        raise InvalidPaper("shape", -1)
    if not thing:
        raise InvalidPaper("empty", -1)
    for k, crew in enumerate(thing):
        if not crew or not is_ascending(crew):
            raise InvalidPaper("crew", k)
        if k > 0 and not thing[k - 1] < crew:
            raise InvalidPaper("rise", k)
    pair = first_inside(thing)
    if pair is not None:
        raise InvalidPaper("inside", pair)
    return len(thing)
