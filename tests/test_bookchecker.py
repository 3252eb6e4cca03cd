import unittest
from itertools import product
from random import Random

from crewbook.bookchecker import lets_book
from crewbook.bookuse import restricted
from crewbook.errors import InvalidPaper, UnknownPerson
from tests.samples import (BOOK, FIVE, ODD, PAIRS, SIXTY, TWO, all_crews, books_directly, left_in, nested, people_in,
                           relevant_directly, subsets)

ABC = ('a', 'b', 'c')
AB, AC = TWO


class BookTest(unittest.TestCase):
    def refuse(self, word, at, *arguments, **named):
        with self.assertRaises(InvalidPaper) as caught:
            lets_book(*arguments, **named)
        self.assertEqual((caught.exception.word, caught.exception.at), (word, at), arguments)


class TestLetsBook(BookTest):
    def test_examples_of_the_document(self):
        self.assertEqual(lets_book(TWO, ABC, 1, BOOK), 3)
        self.refuse('loss', (1, 'b'), TWO, ABC, 0, BOOK)

    def test_arguments_by_name(self):
        self.assertEqual(lets_book(crews=TWO, present=ABC, width=1, thing=BOOK, kept=(), first=AB), 3)
        with self.assertRaises(TypeError):
            lets_book(TWO, ABC, 1, BOOK, ())

    def test_shape(self):
        page = BOOK[0]
        for thing in ODD + (list(BOOK), (page, None), (list(page),), (page + ((),),), (page[:1],), ((page[0], 'ab'),),
                            ((page[0], None),), ((page[0], ['a', 'b']),), ((page[0], ('a', 'B')),),
                            ((('a', 1), page[1]),), (((True,), page[1]),), nested(30), ('a', 'b'), ABC):
            self.refuse('shape', -1, TWO, ABC, 1, thing)

    def test_a_shape_with_two_tuples_is_a_page(self):
        self.refuse('set', 0, TWO, ABC, 1, (((), ()),))
        self.refuse('set', 0, TWO, ABC, 1, ((('x', 'b'), ('yy',)),))

    def test_set(self):
        for people in ((), ('a',), ('b', 'c'), ('b', 'a'), ('a', 'a', 'b'), ('a', 'b', 'd'), ('zz',)):
            self.refuse('set', 0, TWO, ABC, 1, ((people, AB),) + BOOK)
            self.refuse('set', 3, TWO, ABC, 1, BOOK + ((people, AB),))
        self.refuse('set', 1, TWO, ABC, 1, (BOOK[0], BOOK[0], BOOK[1], BOOK[2]))
        self.refuse('set', 2, TWO, ABC, 1, (BOOK[0], BOOK[2], BOOK[1]))

    def test_set_that_is_no_subset_of_present(self):
        self.refuse('set', 1, TWO, AB, 1, BOOK)
        self.refuse('set', 0, TWO, AC, 1, BOOK)

    def test_set_without_a_kept_person(self):
        self.refuse('set', 0, TWO, ABC, 1, BOOK, kept=('c',))
        self.refuse('set', 2, TWO, ABC, 1, BOOK, kept=('b',))

    def test_crew(self):
        for crew in ((), ('a',), ('b', 'a'), ('b', 'c'), ABC, ('zz',), AC):
            self.refuse('crew', 0, TWO, ABC, 1, ((AB, crew),) + BOOK[1:])
        self.refuse('crew', 2, TWO, ABC, 1, BOOK[:2] + ((AC, AB),))

    def test_set_and_crew_page_by_page(self):
        self.refuse('crew', 0, TWO, ABC, 1, ((AB, AC), ((), AB)))
        self.refuse('set', 1, TWO, ABC, 1, ((AB, AB), (AB, AC), (AC, AB)))

    def test_missing(self):
        self.refuse('missing', AB, TWO, ABC, 1, ())
        self.refuse('missing', AB, TWO, ABC, 1, BOOK[1:])
        self.refuse('missing', ABC, TWO, ABC, 1, (BOOK[0], BOOK[2]))
        self.refuse('missing', AC, TWO, ABC, 1, BOOK[:2])
        self.refuse('missing', ABC, TWO, ABC, 1, BOOK[:1], first=AC)
        self.refuse('missing', ABC, TWO, ABC, 1, (), kept=('b', 'c'))

    def test_first(self):
        self.assertEqual(lets_book(TWO, ABC, 1, BOOK, first=AB), 3)
        self.refuse('first', -1, TWO, ABC, 1, BOOK, first=AC)
        self.refuse('first', -1, TWO, ABC, 0, BOOK, first=AC)
        self.refuse('first', -1, TWO, ABC, 1, BOOK, first=('z',))
        self.refuse('first', -1, TWO, ('b', 'c'), 1, (), first=AB)

    def test_loss(self):
        three = (('a', 'b'), ('a', 'c'), ('b', 'c'))
        pages = tuple((people, left_in(three, people)[0]) for people in (AB, ABC, AC, ('b', 'c')))
        self.assertEqual(lets_book(three, ABC, 1, pages), 4)
        self.refuse('loss', (1, 'a'), three, ABC, 0, pages)
        self.refuse('loss', (1, 'b'), three, ABC, 0, pages[:3], kept=('a',))
        self.assertEqual(lets_book(three, ABC, 0, pages[:2], kept=('a', 'b')), 2)

    def test_the_crew_must_stay(self):
        crews = (('a',), ('b',), ('c',))
        pages = tuple((people, people[:1]) for people in subsets(ABC)[1:])
        self.assertEqual(lets_book(crews, ABC, 1, pages), 7)
        changed = tuple((people, ('b',) if people == AB else crew) for people, crew in pages)
        self.refuse('loss', (2, 'c'), crews, ABC, 1, changed)
        self.refuse('loss', (2, 'c'), crews, ABC, SIXTY, changed)

    def test_the_loss_of_a_kept_person_is_not_checked(self):
        crews = (('a',), ('b',), ('c',))
        pages = ((AB, ('a',)), (ABC, ('a',)))
        self.assertEqual(lets_book(crews, ABC, 0, pages, kept=AB), 2)
        changed = ((AB, ('b',)), (ABC, ('a',)))
        self.refuse('loss', (1, 'c'), crews, ABC, 3, changed, kept=AB)

    def test_kept_people_who_are_absent_have_no_effect(self):
        crews = (('a', 'b'), ('a', 'c'), ('d',))
        self.assertEqual(lets_book(crews, ABC, 1, BOOK, kept=('d',)), 3)

    def test_no_crew_is_left(self):
        for present in ((), ('a',), ('b', 'c')):
            self.assertEqual(lets_book(TWO, present, 1, ()), 0)
            self.refuse('set', 0, TWO, present, 1, BOOK)
        self.assertEqual(lets_book(TWO, ('b', 'c'), 0, (), kept=('b',)), 0)

    def test_unknown_people_come_first(self):
        for thing in (None, BOOK):
            for present, kept, person in ((('a', 'z'), ('y',), 'z'), (('a', 'm', 'n'), (), 'm'), (ABC, ('a', 'x'), 'x')):
                with self.assertRaises(UnknownPerson) as caught:
                    lets_book(TWO, present, 1, thing, kept=kept)
                self.assertEqual(caught.exception.person, person)

    def test_names_in_books_and_first_are_not_checked(self):
        self.refuse('crew', 0, TWO, ABC, 1, ((AB, ('zz',)),), first=('yy',))


class TestAgainstTheDefinition(BookTest):
    def test_all_choices_of_pages(self):
        for crews in all_crews(ABC, 3):
            people = people_in(crews)
            for kept in subsets(people):
                relevant = relevant_directly(crews, people, kept)
                for width in (0, 1, 2):
                    books = books_directly(crews, people, width, kept)
                    for chosen in product(*[left_in(crews, some) for some in relevant]):
                        self.compare(crews, people, width, tuple(zip(relevant, chosen)), kept, books)

    def compare(self, crews, present, width, pages, kept, books):
        try:
            accepted = lets_book(crews, present, width, pages, kept=kept)
        except InvalidPaper as error:
            self.assertEqual(error.word, 'loss')
            accepted = None
        self.assertEqual(accepted, len(pages) if pages in books else None)

    def test_the_place_of_the_first_loss(self):
        rnd = Random(7)
        relevant = relevant_directly(PAIRS, FIVE, ())
        for _ in range(200):
            pages = tuple((people, rnd.choice(left_in(PAIRS, people))) for people in relevant)
            book = dict(pages)
            wrong = [(n, lost) for n, (people, crew) in enumerate(pages) for lost in people
                     if not self.allowed(book, people, crew, lost, 1)]
            if wrong:
                self.refuse('loss', wrong[0], PAIRS, FIVE, 1, pages)
            else:
                self.assertEqual(lets_book(PAIRS, FIVE, 1, pages), len(pages))

    def allowed(self, book, people, crew, lost, width):
        other = book.get(tuple(person for person in people if person != lost))
        if other is None or lost not in crew:
            return other in (None, crew)
        return len(set(other) - set(crew)) <= width

    def test_changed_books_are_refused(self):
        rnd = Random(8)
        books = books_directly(TWO, ABC, 1) + books_directly(PAIRS[:3], ('m', 'n', 'p', 'q'), 1)
        for book in books:
            crews = TWO if 'a' in book[0][0] else PAIRS[:3]
            present = people_in(crews)
            for k in range(len(book)):
                self.refuse('missing', book[k][0], crews, present, 1, book[:k] + book[k + 1:])
            order = rnd.sample(book, len(book))
            if tuple(order) != book:
                with self.assertRaises(InvalidPaper):
                    lets_book(crews, present, 1, tuple(order))

    def test_a_restricted_book_is_accepted(self):
        for book in books_directly(PAIRS[:3], ('m', 'n', 'p', 'q'), 1):
            for people in subsets(('m', 'n', 'p', 'q')):
                pages = restricted(book, people)
                self.assertEqual(lets_book(PAIRS[:3], people, 1, pages), len(pages))


if __name__ == '__main__':
    unittest.main()
