"""Offers: crews that may be added and people who may be kept."""

from crewbook.crewsets import contains, people_of
from crewbook.errors import InvalidPaper
from crewbook.kinds import is_marked, is_name, is_set, is_tuple_of_names


def lets_offers(crews, thing):
    """Return the number of offers of any value that is offers, otherwise raise InvalidPaper."""
    if not isinstance(thing, tuple) or not all([is_offer(offer) for offer in thing]):
        raise InvalidPaper("shape", -1)
    people = people_of(crews)
    others = list(crews)
    for k, (word, what) in enumerate(thing):
        if k > 0 and not thing[k - 1] < thing[k]:
            raise InvalidPaper("rise", k)
        if word == "keep" and what not in people:
            raise InvalidPaper("offer", k)
        if word == "crew":
            if not can_be_added(others, people, what):
                raise InvalidPaper("offer", k)
            others.append(what)
    return len(thing)


def is_offer(thing):
    """Return whether any value is an offer by its kind alone."""
    if is_marked(thing, "crew", 2):
        return is_tuple_of_names(thing[1])
    return is_marked(thing, "keep", 2) and is_name(thing[1])


def can_be_added(crews, people, crew):
    """Return whether the crew is one of some people that contains none of the crews and is in none."""
    if not crew or not is_set(crew) or not contains(people, crew):
        return False
    return not any([contains(crew, other) or contains(other, crew) for other in crews])
