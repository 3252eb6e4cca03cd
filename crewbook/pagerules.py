"""What restricts the pages of a book."""

from crewbook.crewsets import crews_within, without_person
from crewbook.losses import newcomers


def relevant_sets(crews, present, kept):
    """Return the ascending list of the subsets that have a page in a book for present."""
    subsets = [()]
    for person in present:
        with_person = [people + (person,) for people in subsets]
        subsets = with_person if person in kept else subsets + with_person
    return sorted([people for people in subsets if crews_within(crews, people)])


def leads_to(crew, lost, other, width):
    """Return whether the other crew, of people who are left, may do the duty after the loss."""
    if lost not in crew:
        return other == crew
    return len(newcomers(crew, other)) <= width


def allowed_by(crews, known, people, width, kept):
    """Return the crews that known pages, a dict of the crews by their sets, allow for the set of people."""
    found = crews_within(crews, people)
    for larger, other in known.items():
        lost = newcomers(people, larger)
        if len(lost) == 1 and without_person(larger, lost[0]) == people and lost[0] not in kept:
            found = tuple([crew for crew in found if leads_to(other, lost[0], crew, width)])
    return found
