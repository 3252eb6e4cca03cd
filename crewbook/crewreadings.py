"""Reading sets and crews from texts."""

from crewbook.errors import InvalidText
from crewbook.words import entries_read, people_read

CREW_FORM = ("crew", "PEOPLE")


def set_read(text):
    people = people_read(text)
    if people is None:
        raise InvalidText(0, 0)
    return people


def crews_read(text):
    """Return the tuple of the sets in a text of crew lines; whether they are crews is not checked."""
    return tuple([entry[0] for entry in entries_read(text, CREW_FORM)])
