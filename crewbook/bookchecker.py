"""The checker of books."""

from crewbook.crewsets import check_people, contains, without_person
from crewbook.errors import InvalidPaper
from crewbook.kinds import is_pair_of_name_tuples
from crewbook.pagerules import leads_to, relevant_sets


def lets_book(crews, present, width, thing, *, kept=(), first=None):
    """Return the number of pages of any value that is a book for present, otherwise raise InvalidPaper."""
    check_people(crews, present, kept)
    if not isinstance(thing, tuple) or not all([is_pair_of_name_tuples(page) for page in thing]):
        raise InvalidPaper("shape", -1)
    relevant = relevant_sets(crews, present, kept)
    check_pages(crews, relevant, thing)
    book = {people: crew for people, crew in thing}
    for people in relevant:
        if people not in book:
            raise InvalidPaper("missing", people)
    if first is not None and book.get(present) != first:
        raise InvalidPaper("first", -1)
    for n, (people, crew) in enumerate(thing):
        for person in people:
            if person not in kept and not keeps_rule(book, people, person, width):
                raise InvalidPaper("loss", (n, person))
    return len(thing)


def check_pages(crews, relevant, pages):
    for n, (people, crew) in enumerate(pages):
        if people not in relevant or n > 0 and not pages[n - 1][0] < people:
            raise InvalidPaper("set", n)
        if crew not in crews or not contains(people, crew):
            raise InvalidPaper("crew", n)


def keeps_rule(book, people, lost, width):
    """Return whether the loss leads from the page of the people to the page without the lost one, if any."""
    rest = without_person(people, lost)
    return rest not in book or leads_to(book[people], lost, book[rest], width)
