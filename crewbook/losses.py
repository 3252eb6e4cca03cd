"""What follows if one person falls out."""

from crewbook.crewsets import check_people, contains, crews_within, people_of, without_person
from crewbook.kinds import is_set


def is_situation(crews, thing):
    """Return whether any value is a pair (present, crew) that is a situation of the crews."""
    if not isinstance(thing, tuple) or len(thing) != 2:
        return False
    present, crew = thing
    if not is_set(present) or not contains(people_of(crews), present):
        return False
    return crew in crews and contains(present, crew)


def crews_left(crews, present):
    check_people(crews, present)
    return crews_within(crews, present)


def newcomers(crew, other):
    """Return the members of other that are not in crew."""
    return tuple([person for person in other if person not in crew])


def loss_word(crews, present, crew, lost, width):
    """Return whether the crew stays, the duty is over, an answer is open, or the loss is stuck."""
    check_people(crews, present, crew, (lost,))
    if lost not in crew:
        return "stays"
    left = crews_within(crews, without_person(present, lost))
    if not left:
        return "over"
    return "open" if near_crews(left, crew, width) else "stuck"


def answers(crews, present, crew, lost, width):
    check_people(crews, present, crew, (lost,))
    return next_crews(crews, without_person(present, lost), crew, lost, width) if lost in crew else ()


def after(crews, present, *lost):
    """Return the present people without the lost ones, and the crews that are left then."""
    check_people(crews, present, lost)
    people = newcomers(lost, present)
    return people, crews_within(crews, people)


def next_crews(crews, rest, crew, lost, width):
    """Return the crews that may do the duty after the loss, if it is not over: the one that stays, or the answers.

    The rest are the people who are present then.
    """
    if lost not in crew:
        return (crew,)
    return near_crews(crews_within(crews, rest), crew, width)


def near_crews(crews, crew, width):
    """Return those of the crews that have at most width members who are not in the crew."""
    return tuple([other for other in crews if len(newcomers(crew, other)) <= width])
