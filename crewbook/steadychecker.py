"""The checker of steady papers."""

from crewbook.crewsets import check_people
from crewbook.errors import InvalidPaper
from crewbook.kinds import is_marked, is_name, is_number, is_pair_of_name_tuples
from crewbook.steadystates import is_state, next_states, state_events


def lets_steady(crews, present, crew, width, thing, *, kept=()):
    """Return True for any value that is a paper for a steady state, False for one for another state."""
    check_people(crews, present, crew, kept)
    steady = is_steady_shape(thing)
    if not steady and not is_unsteady_shape(thing):
        raise InvalidPaper("shape", -1)
    rows = thing[1]
    states = [row[:2] for row in rows]
    check_states(crews, states)
    if (present, crew) not in states:
        raise InvalidPaper("start", -1)
    if steady:
        check_steady(crews, states, width, kept)
    else:
        check_unsteady(crews, rows, width, kept)
    return steady


def is_steady_shape(thing):
    if not is_marked(thing, "steady", 2) or not isinstance(thing[1], tuple):
        return False
    return all([is_pair_of_name_tuples(state) for state in thing[1]])


def is_unsteady_shape(thing):
    return is_marked(thing, "unsteady", 2) and isinstance(thing[1], tuple) and all([is_row(row) for row in thing[1]])


def is_row(thing):
    if not isinstance(thing, tuple) or len(thing) != 4 or not is_pair_of_name_tuples(thing[:2]):
        return False
    return is_number(thing[2]) and is_event(thing[3])


def is_event(thing):
    return isinstance(thing, tuple) and len(thing) == 2 and thing[0] in ("lost", "back") and is_name(thing[1])


def check_states(crews, states):
    for k, (people, crew) in enumerate(states):
        if not is_state(crews, people, crew):
            raise InvalidPaper("state", k)
        if k > 0 and not states[k - 1] < states[k]:
            raise InvalidPaper("rise", k)


def check_steady(crews, states, width, kept):
    known = {state: True for state in states}
    for k, state in enumerate(states):
        for event in state_events(crews, state, kept):
            if not any([following in known for following in next_states(crews, state, event, width)]):
                raise InvalidPaper("event", (k, event))


def check_unsteady(crews, rows, width, kept):
    ranks = {row[:2]: row[2] for row in rows}
    for k, (people, crew, rank, event) in enumerate(rows):
        state = (people, crew)
        if event not in state_events(crews, state, kept):
            raise InvalidPaper("event", (k, event))
        for following in next_states(crews, state, event, width):
            if following not in ranks or ranks[following] >= rank:
                raise InvalidPaper("rank", k)
