"""The checker of good papers."""

from crewbook.crewsets import contains, crews_within, people_of, without_person
from crewbook.errors import InvalidPaper
from crewbook.exchanges import GOOD_WIDTH, exchange_places, exchanged
from crewbook.kinds import is_marked, is_name, is_number, is_pair_of_name_tuples, is_set
from crewbook.losses import near_crews


def lets_good(crews, thing):
    """Return True for any value that is a good paper for good crews, False for one for other crews."""
    if is_good_shape(thing):
        check_rows(crews, thing[1])
        return True
    if is_bad_shape(thing):
        check_stuck(crews, thing[1], thing[2], thing[3])
        return False
    raise InvalidPaper("shape", -1)


def is_good_shape(thing):
    return is_marked(thing, "good", 2) and isinstance(thing[1], tuple) and all([is_row(row) for row in thing[1]])


def is_row(thing):
    if not isinstance(thing, tuple) or len(thing) != 4:
        return False
    return all([is_number(place) for place in thing[:2]]) and all([is_name(person) for person in thing[2:]])


def is_bad_shape(thing):
    return is_marked(thing, "bad", 4) and is_pair_of_name_tuples(thing[1:3]) and is_name(thing[3])


def check_rows(crews, rows):
    places = exchange_places(crews)
    if len(rows) != len(places):
        raise InvalidPaper("many", -1)
    for k, (i, j, person, other) in enumerate(rows):
        if (i, j, person) != places[k]:
            raise InvalidPaper("row", k)
        if other not in crews[j] or other in crews[i] or exchanged(crews[i], person, other) not in crews:
            raise InvalidPaper("exchange", k)


def check_stuck(crews, present, crew, lost):
    if not is_set(present) or not contains(people_of(crews), present):
        raise InvalidPaper("present", -1)
    if crew not in crews_within(crews, present):
        raise InvalidPaper("crew", -1)
    if lost not in crew:
        raise InvalidPaper("lost", -1)
    left = crews_within(crews, without_person(present, lost))
    if not left:
        raise InvalidPaper("over", -1)
    if near_crews(left, crew, GOOD_WIDTH):
        raise InvalidPaper("answer", -1)
