"""What events do to a watch.

A state is (present, crew, width), with None in the place of the crew while the duty is over.
"""

from crewbook.crewsets import check_people, contains, crews_within, with_person, without_person
from crewbook.errors import InvalidEvent
from crewbook.kinds import is_name, is_number, is_set
from crewbook.losses import near_crews


def is_event(thing):
    """Return whether any value is an event by kind."""
    if not isinstance(thing, tuple):
        return False
    if len(thing) == 2:
        return thing[0] == "widen" and is_number(thing[1])
    return len(thing) == 3 and thing[0] in ("lose", "back") and is_name(thing[1]) and is_crew_or_none(thing[2])


def is_crew_or_none(thing):
    return thing is None or is_set(thing) and len(thing) > 0


def next_state(crews, kept, state, event, is_full):
    """Return the state after any value as an event, or raise the error for the first reason against it."""
    if not is_event(event):
        raise InvalidEvent(event, "shape")
    check_people(crews, names_in(event))
    if is_full:
        raise InvalidEvent(event, "full")
    reason = reason_against(crews, kept, state, event)
    if reason is not None:
        raise InvalidEvent(event, reason)
    return state_after(state, event)


def names_in(event):
    """Return the names in an event by kind, the person first."""
    if event[0] == "widen":
        return ()
    return event[1:2] if event[2] is None else event[1:2] + event[2]


def reason_against(crews, kept, state, event):
    """Return the first reason for which an event of people of the crews is not possible, or None."""
    if event[0] == "widen":
        return None
    word, person, crew = event
    if word == "back" and person in state[0]:
        return "present"
    if word == "lose" and loss_reason(kept, state, person) is not None:
        return loss_reason(kept, state, person)
    takers = possible_takers(crews, state, word, person)
    if not takers:
        return "stuck"
    return None if crew in takers else "answer"


def loss_reason(kept, state, person):
    """Return the reason for which a person cannot be lost, whatever follows, or None."""
    if person not in state[0]:
        return "absent"
    return "kept" if person in kept else None


def possible_takers(crews, state, word, person):
    """Return what an event may name as the crew that takes over: None alone if no crew may.

    It is () if the event is a loss that is stuck.
    """
    present, crew, width = state
    left = crews_within(crews, people_after(present, word, person))
    if word == "back":
        return left if crew is None and left else (None,)
    if crew is None or person not in crew or not left:
        return (None,)
    return near_crews(left, crew, width)


def people_after(present, word, person):
    return with_person(present, person) if word == "back" else without_person(present, person)


def state_after(state, event):
    """Return the state after an event that is possible."""
    present, crew, width = state
    if event[0] == "widen":
        return present, crew, event[1]
    word, person, taker = event
    people = people_after(present, word, person)
    if taker is not None:
        return people, taker, width
    # Without a crew that takes over, a lost member ends the duty.
    stays = crew is not None and contains(people, crew)
    return people, crew if stays else None, width
