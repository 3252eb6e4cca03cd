"""A watch over a duty, step by step."""

from crewbook.calm import safe_answers
from crewbook.crewsets import check_people, people_of
from crewbook.errors import CrewError, InvalidEvent, InvalidWidth, NothingToUndo
from crewbook.eventtexts import event_line
from crewbook.kinds import is_number, is_same
from crewbook.losses import loss_word
from crewbook.lossmoves import calm_situations, careless_situations, loss_moves
from crewbook.watchrules import loss_reason, next_state


class Watch:
    """A watch, with a state after each of its events and one before them."""

    MOST = 60

    def __init__(self, crews, crew, *, width=1, kept=()):
        check_people(crews, crew, kept)
        self._listed = crews
        self._kept = kept
        self._events = []
        self._states = [(people_of(crews), crew, width)]
        self._started = 0
        self._finished = 0

    @property
    def present(self):
        return self._states[-1][0]

    @property
    def crew(self):
        return self._states[-1][1]

    @property
    def width(self):
        return self._states[-1][2]

    @width.setter
    def width(self, value):
        if is_number(value):
            self.go(("widen", value))
        else:
            self._started += 1
            self._finished += 1
            raise InvalidWidth(value)

    @property
    def is_calm(self):
        return self._has_calm(self._states[-1])

    @property
    def is_careless(self):
        present, crew, width = self._states[-1]
        if crew is None:
            return True
        return careless_situations(loss_moves(self._listed, present, width, self._kept))[(present, crew)]

    def set_width(self, value):
        self.width = value
        return self.width

    def lose(self, person, answer=None):
        return self.go(("lose", person, answer))

    def back(self, person, crew=None):
        return self.go(("back", person, crew))

    def widen(self, width):
        return self.go(("widen", width))

    def go(self, event):
        """Apply any value as an event, and return the crew that does the duty then, or None."""
        self._started += 1
        try:
            self._apply(event)
            return self.crew
        finally:
            self._finished += 1

    def advice(self, person):
        """Return what follows if the person is lost now, or an answer to it after which the situation is calm."""
        check_people(self._listed, (person,))
        reason = loss_reason(self._kept, self._states[-1], person)
        if reason is not None:
            raise InvalidEvent(("lose", person, None), reason)
        present, crew, width = self._states[-1]
        if crew is None:
            return "over"
        word = loss_word(self._listed, present, crew, person, width)
        if word in ("over", "stays"):
            return word
        safe = safe_answers(self._listed, present, crew, person, width, kept=self._kept)
        return safe[0] if safe else None

    def judge(self):
        """Return the index of the first event after which the situation was not calm any more, or None."""
        for many, state in enumerate(self._states):
            if not self._has_calm(state):
                return many - 1 if many > 0 else None
        return None

    def tried(self, *events):
        """Return the present people and the crew after each of the events, without applying them."""
        found = []
        state = self._states[-1]
        for many, event in enumerate(events, start=len(self._events)):
            state = self._state_after(state, event, many)
            found.append(state[:2])
        return tuple(found)

    def log(self):
        _, crew, width = self._states[0]
        return (("watch", self._listed, crew, width, self._kept),) + tuple(self._events)

    def undo(self):
        self._started += 1
        try:
            if not self._events:
                raise NothingToUndo(0)
            self._states.pop()
            return self._events.pop()
        finally:
            self._finished += 1

    def do_all(self, *events, keep=False):
        """Apply the events in order and return their number; if one is not possible, keep those before it or none."""
        self._started += 1
        before = len(self._events)
        try:
            for event in events:
                self._apply(event)
            return len(events)
        except CrewError:
            if not keep:
                self._events = self._events[:before]
                self._states = self._states[:before + 1]
            raise
        finally:
            self._finished += 1

    def counts(self):
        return self._started, self._finished

    def __len__(self):
        return len(self._events)

    def __str__(self):
        if not self._events:
            return "-"
        return " / ".join([event_line(event) for event in self._events])

    def __eq__(self, other):
        return isinstance(other, Watch) and is_same(self.log(), other.log())

    def _apply(self, event):
        state = self._state_after(self._states[-1], event, len(self._events))
        self._states.append(state)
        self._events.append(event)

    def _state_after(self, state, event, many):
        """Return the state after an event that follows so many others, or raise an error."""
        return next_state(self._listed, self._kept, state, event, many >= self.MOST)

    def _has_calm(self, state):
        present, crew, width = state
        if crew is None:
            return True
        return calm_situations(loss_moves(self._listed, present, width, self._kept))[(present, crew)]
