"""Steady papers: why a state is steady, or why it is not."""

from crewbook.crewsets import check_people
from crewbook.steadysearch import SteadySearch


def steady_paper(crews, present, crew, width, *, kept=()):
    """Return a steady paper of the state."""
    check_people(crews, present, crew, kept)
    search = SteadySearch(crews, (present, crew), width, kept)
    if search.has_steady((present, crew)):
        return "steady", search.steady_states()
    return "unsteady", search.fault_rows()
