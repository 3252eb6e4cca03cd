"""Whether a member of a crew can be exchanged for one of another crew."""

from crewbook.losses import newcomers


def exchanged(crew, person, other):
    """Return the set of the crew without the person and with the other one."""
    return tuple(sorted([member for member in crew if member != person] + [other]))


def can_exchange(crews, crew, person, other):
    """Return whether a member of the other crew can take the place of the person in the crew."""
    return any([exchanged(crew, person, member) in crews for member in newcomers(crew, other)])


def all_exchange(crews):
    """Return whether the crews are good: in each crew, each other crew can replace whom it does not have."""
    return all([
        can_exchange(crews, crew, person, other)
        for crew in crews for other in crews for person in newcomers(other, crew)
    ])
