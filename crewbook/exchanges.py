"""Whether a member of a crew can be exchanged for one of another crew."""

from crewbook.losses import newcomers

# Good crews are those in which all situations are careless for this width.
GOOD_WIDTH = 1


def exchanged(crew, person, other):
    """Return the set of the crew without the person and with the other one."""
    return tuple(sorted([member for member in crew if member != person] + [other]))


def exchange_places(crews):
    """Return, ascending, (i, j, person) for each two crews i and j and each person of crew i not in crew j."""
    return [
        (i, j, person)
        for i, crew in enumerate(crews) for j, other in enumerate(crews) for person in newcomers(other, crew)
    ]


def exchange_partners(crews, place):
    """Return the members of crew j who can take the place of the person in crew i."""
    i, j, person = place
    return [other for other in newcomers(crews[i], crews[j]) if exchanged(crews[i], person, other) in crews]


def all_exchange(crews):
    """Return whether the crews are good: in each crew, each other crew can replace whom it does not have."""
    return all([exchange_partners(crews, place) for place in exchange_places(crews)])
