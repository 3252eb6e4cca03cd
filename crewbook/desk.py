"""A desk, where a watch is told and asked in rows of text."""

from crewbook.crewtexts import set_text
from crewbook.errors import InvalidRow, InvalidText
from crewbook.eventreadings import read_event, read_log
from crewbook.eventtexts import event_line
from crewbook.kinds import is_name
from crewbook.replaying import is_log, replayed


class Desk:
    """A desk with a watch, as soon as a watch line was said."""

    def __init__(self):
        self._watch = None
        self._started = 0
        self._finished = 0

    def say(self, row):
        """Return the answer to a row."""
        self._started += 1
        try:
            return self._answer(row)
        finally:
            self._finished += 1

    def counts(self):
        return self._started, self._finished

    def _answer(self, row):
        log = log_in(row)
        if log is not None:
            self._watch = replayed(log)
            return "ok"
        if self._watch is None:
            raise InvalidRow(row)
        event = event_in_row(row)
        if event is not None:
            return duty_text(self._watch.go(event))
        return report(self._watch, row)


def log_in(row):
    """Return the log without events of which the row is the first line, or None."""
    try:
        log = read_log([row])
    except InvalidText:
        return None
    return log if is_log(log) else None


def event_in_row(row):
    """Return the event of which the row is the line, or None."""
    try:
        return read_event(row)
    except InvalidText:
        return None


def report(watch, row):
    """Return the answer of a watch to a row that is not the line of an event."""
    if row == "undo":
        return event_line(watch.undo())
    if row == "count":
        return str(len(watch))
    if row == "log":
        return str(watch)
    if row == "present":
        return set_text(watch.present)
    if row == "crew":
        return duty_text(watch.crew)
    if row == "width":
        return str(watch.width)
    if row == "calm":
        return yes_or_no(watch.is_calm)
    if row == "careless":
        return yes_or_no(watch.is_careless)
    if row == "judge":
        index = watch.judge()
        return "none" if index is None else str(index)
    words = row.split(" ")
    if len(words) == 2 and words[0] == "advice" and is_name(words[1]):
        return advice_text(watch.advice(words[1]))
    raise InvalidRow(row)


def duty_text(crew):
    return "over" if crew is None else set_text(crew)


def yes_or_no(answer):
    return "yes" if answer else "no"


def advice_text(advice):
    if advice is None:
        return "none"
    return advice if isinstance(advice, str) else set_text(advice)
