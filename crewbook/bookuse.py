"""How a book is used. The pages need not be a book."""

from crewbook.crewsets import contains


def restricted(book, present, *, kept=()):
    """Return the pages for the subsets of present that contain all kept people of present."""
    needed = [person for person in kept if person in present]
    return tuple([page for page in book if contains(present, page[0]) and contains(page[0], needed)])


def crews_used(book):
    return tuple(sorted({crew for people, crew in book}))
