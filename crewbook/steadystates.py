"""States of a duty to which people can come back, and the events that lead from state to state.

A state is a pair (present, crew), with () in the place of the crew if no crew is left. An event is a pair of
"back" or "lost" and a person.
"""

from crewbook.crewsets import contains, crews_within, people_of, with_person, without_person
from crewbook.kinds import is_set
from crewbook.losses import is_situation, newcomers, next_crews


def is_state(crews, people, crew):
    """Return whether a tuple of names and another one are a state."""
    if crew:
        return is_situation(crews, (people, crew))
    return is_set(people) and contains(people_of(crews), people) and not crews_within(crews, people)


def state_events(crews, state, kept):
    """Return the events of a state, ascending."""
    present = state[0]
    returns = [("back", person) for person in newcomers(present, people_of(crews))]
    return returns + [("lost", person) for person in present if person not in kept]


def next_states(crews, state, event, width):
    """Return the states to which an event leads."""
    present, crew = state
    word, person = event
    people = without_person(present, person) if word == "lost" else with_person(present, person)
    left = crews_within(crews, people)
    if crew in left:
        return [(people, crew)]
    if not left:
        return [(people, ())]
    if crew == ():
        return [(people, other) for other in left]
    return [(people, other) for other in next_crews(crews, people, crew, person, width)]
