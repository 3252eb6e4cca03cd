"""Reading events and logs from lines."""

from crewbook.errors import InvalidText
from crewbook.words import line_read

EVENT_FORMS = {
    "lose": ("lose", "NAME", "PEOPLE"),
    "back": ("back", "NAME", "PEOPLE"),
    "widen": ("widen", "NUMBER"),
}
START_FORM = ("watch", "NUMBER", "PEOPLE", "CREW", "CREW")


def read_event(text):
    return event_in(text, 0)


def read_log(lines):
    """Return the tuple of the first element of a log and its events; whether it is a log is not checked."""
    if not lines:
        raise InvalidText(0, 0)
    found = [start_in(lines[0])]
    for number, line in enumerate(lines[1:], start=1):
        found.append(event_in(line, number))
    return tuple(found)


def event_in(line, number):
    """Return the event that the line with this number writes."""
    first = line.split(" ")[0]
    if first not in EVENT_FORMS:
        raise InvalidText(number, 0)
    parts = line_read(line, number, EVENT_FORMS[first])
    if first == "widen":
        return parts
    word, person, crew = parts
    # What is written as - is no crew here.
    return word, person, crew if crew else None


def start_in(line):
    """Return the first element of a log that a line writes."""
    more = len(line.split(" ")) - len(START_FORM)
    word, width, kept, crew, *crews = line_read(line, 0, START_FORM + ("CREW",) * more)
    return word, tuple(crews), crew, width, kept
