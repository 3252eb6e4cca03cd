"""Logs, and the watches that are made of them again."""

from crewbook.crewsets import contains, people_of
from crewbook.kinds import is_crews, is_marked, is_number, is_set
from crewbook.watching import Watch
from crewbook.watchrules import is_event


def is_log(thing):
    """Return whether any value is a log by kind."""
    if not isinstance(thing, tuple) or not thing:
        return False
    return is_start(thing[0]) and all([is_event(event) for event in thing[1:]])


def is_start(thing):
    """Return whether any value is the first element of a log by kind."""
    if not is_marked(thing, "watch", 5):
        return False
    _, crews, crew, width, kept = thing
    if not is_crews(crews) or not is_number(width) or not is_set(kept):
        return False
    return crew in crews and contains(people_of(crews), kept)


def replayed(log):
    """Return a new watch after the events of a log."""
    _, crews, crew, width, kept = log[0]
    watch = Watch(crews, crew, width=width, kept=kept)
    for event in log[1:]:
        watch.go(event)
    return watch
