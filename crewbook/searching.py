"""Searching in crews, and renaming their people."""

from crewbook.crewsets import check_people, contains, people_of
from crewbook.errors import InvalidPaper
from crewbook.kinds import is_name


def crews_with(crews, *, size=None, holds=(), lacks=()):
    """Return the crews with size members, any number if it is None, with all of holds and none of lacks."""
    check_people(crews, holds, lacks)
    sized = [crew for crew in crews if size is None or len(crew) == size]
    return tuple([crew for crew in sized if contains(crew, holds) and is_apart(crew, lacks)])


def without(crews, *people):
    """Return the crews that contain none of the people."""
    check_people(crews, people)
    return tuple([crew for crew in crews if is_apart(crew, people)])


def is_apart(crew, people):
    """Return whether none of the people are in the crew."""
    return not any([person in crew for person in people])


def renamed(crews, **names):
    """Return the crews with new names, given by the old ones."""
    check_people(crews, list(names))
    if not all([is_name(name) for name in names.values()]):
        raise InvalidPaper("name", -1)
    new_names = {person: names.get(person, person) for person in people_of(crews)}
    if len({new_names[person] for person in new_names}) < len(new_names):
        raise InvalidPaper("twice", -1)
    return tuple(sorted([tuple(sorted([new_names[person] for person in crew])) for crew in crews]))
