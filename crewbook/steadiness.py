"""Whether a state is steady."""

from crewbook.crewsets import check_people
from crewbook.steadysearch import SteadySearch


def is_steady(crews, present, crew, width, *, kept=()):
    """Return whether the state is in a steady set of states; the crew is () if no crew is left."""
    check_people(crews, present, crew, kept)
    return SteadySearch(crews, (present, crew), width, kept).has_steady((present, crew))
