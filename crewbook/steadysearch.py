"""The search for steady sets of states."""

from crewbook.steadystates import next_states, state_events


class SteadySearch:
    """The states that events can reach from a state, and which of them are in no steady set."""

    def __init__(self, crews, start, width, kept):
        self._moves = reached_moves(crews, start, width, kept)
        self._faults = {}
        found = True
        while found:
            found = self.add_faults()

    def add_faults(self):
        """Note the states with an event that leads only to states noted before, and return whether there is one.

        A fault is such an event with the number of states noted before. So it is a rank for the state.
        """
        many = len(self._faults)
        for state in self._moves:
            if state not in self._faults:
                event = self.bad_event(state)
                if event is not None:
                    self._faults[state] = (len(self._faults), event)
        return len(self._faults) > many

    def bad_event(self, state):
        """Return the first event of the state that leads only to states with a fault, or None."""
        for event, nexts in self._moves[state]:
            if all([following in self._faults for following in nexts]):
                return event
        return None

    def has_steady(self, state):
        return state not in self._faults

    def steady_states(self):
        """Return the states that are in some steady set: all of them together are a steady set."""
        return tuple(sorted([state for state in self._moves if state not in self._faults]))

    def fault_rows(self):
        """Return the rows of an unsteady paper for all states that are not steady."""
        return tuple(sorted([
            (people, crew, rank, event) for (people, crew), (rank, event) in self._faults.items()
        ]))


def reached_moves(crews, start, width, kept):
    """Return each state that events can reach, with a list of its events and the states to which they lead."""
    moves = {}
    waiting = [start]
    while waiting:
        state = waiting.pop()
        if state not in moves:
            moves[state] = [
                (event, next_states(crews, state, event, width)) for event in state_events(crews, state, kept)
            ]
            for _, nexts in moves[state]:
                waiting.extend(nexts)
    return moves
