"""The pages of books, also pages that are not a book."""

from crewbook.crewsets import check_people, without_person
from crewbook.pagerules import allowed_by


def allowed_crews(crews, pages, present, width, *, kept=()):
    """Return the crews that the known pages allow for the set present."""
    check_people(crews, present, kept)
    return allowed_by(crews, {people: crew for people, crew in pages}, present, width, kept)


def page_of(book, people):
    """Return the crew on the page of the set, or None if it has no page."""
    for page, crew in book:
        if page == people:
            return crew
    return None


def followed(book, present, *lost):
    """Return the crews on the pages of present and of the people who remain after each loss."""
    found = [page_of(book, present)]
    remaining = present
    for person in lost:
        remaining = without_person(remaining, person)
        found.append(page_of(book, remaining))
    return tuple(found)
