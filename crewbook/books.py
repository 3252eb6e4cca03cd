"""All books, and the situations in which there is one."""

from crewbook.bookplans import BookPlan
from crewbook.crewsets import check_people, crews_within


def books(crews, present, width, *, kept=(), first=None):
    """Yield all books for present in ascending order, those with first on the page of present if it is given."""
    check_people(crews, present, kept)
    plan = BookPlan(crews, present, width, kept)
    start = plan.start(present, first)
    for choices in plan.settled(start):
        yield plan.book(choices)


def is_booked(crews, present, crew, width, *, kept=()):
    return book_paper(crews, present, crew, width, kept=kept) is not None


def book_paper(crews, present, crew, width, *, kept=()):
    """Return a book with the crew on the page of present, or None."""
    check_people(crews, present, crew, kept)
    for book in books(crews, present, width, kept=kept, first=crew):
        return book
    return None


def booked_crews(crews, present, width, *, kept=()):
    check_people(crews, present, kept)
    left = crews_within(crews, present)
    return tuple([crew for crew in left if book_paper(crews, present, crew, width, kept=kept) is not None])
