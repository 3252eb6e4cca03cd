"""Good crews, for which no care is needed, and the first crew of a set by an order of people."""

from crewbook.crewsets import check_people, crews_within
from crewbook.exchanges import all_exchange


def is_good(crews):
    return all_exchange(crews)


def first_crew(crews, present, *order):
    """Return the least crew left that has each person of the order who fits in beside those before, or None."""
    check_people(crews, present, order)
    remaining = crews_within(crews, present)
    for person in order:
        having = [crew for crew in remaining if person in crew]
        if having:
            remaining = having
    return remaining[0] if remaining else None
