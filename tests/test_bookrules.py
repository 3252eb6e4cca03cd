"""The promises over books, their pages, refusal trees and good crews together."""

import unittest
from itertools import islice
from random import Random

from crewbook.bookchecker import lets_book
from crewbook.books import book_paper, booked_crews, books, is_booked
from crewbook.bookuse import crews_used, restricted
from crewbook.goodchecker import lets_good
from crewbook.goodcrews import first_crew
from crewbook.goodpapers import good_paper
from crewbook.pages import allowed_crews, followed, page_of
from crewbook.refusalchecker import lets_refusal
from crewbook.refusals import refusal_paper
from tests.samples import (ALL, BIG, BOOK, FIVE, FOUR, PAIRS, TWO, WIDE, CrewTest, all_crews, left_in, people_in, random_crews,
                           relevant_directly, subsets)

ABC = ('a', 'b', 'c')


class TestBooksByPages(CrewTest):
    def test_each_page_is_allowed_by_the_pages_of_the_larger_sets(self):
        rnd = Random(19)
        for crews in all_crews(ABC, 3) + [random_crews(rnd, 'abcd', 6) for _ in range(60)]:
            people = people_in(crews)
            kept = tuple(rnd.sample(people, rnd.choice((0, 0, 1))))
            width = rnd.choice((0, 1, 2))
            for book in islice(books(crews, people, width, kept=kept), 20):
                for some, crew in book:
                    larger = tuple(page for page in book if len(page[0]) > len(some))
                    self.assertIn(crew, allowed_crews(crews, larger, some, width, kept=kept))
                    self.assertIn(crew, allowed_crews(crews, book, some, width, kept=kept))

    def test_pages_that_are_all_allowed_are_a_book(self):
        rnd = Random(20)
        number = 0
        for _ in range(400):
            crews = random_crews(rnd, 'abcd', 5)
            people = people_in(crews)
            pages = {}
            for some in sorted(relevant_directly(crews, people, ()), key=len, reverse=True):
                allowed = allowed_crews(crews, tuple(sorted(pages.items())), some, 1)
                if allowed:
                    pages[some] = rnd.choice(allowed)
            book = tuple(sorted(pages.items()))
            if len(book) == len(relevant_directly(crews, people, ())):
                self.assertEqual(lets_book(crews, people, 1, book), len(book))
                number += 1
        self.assertGreater(number, 100)

    def test_books_with_a_first_crew_are_those_of_all_books_with_it(self):
        rnd = Random(21)
        for crews in all_crews(ABC, 3) + [PAIRS[:3]]:
            people = people_in(crews)
            for present in subsets(people):
                kept = tuple(rnd.sample(people, rnd.choice((0, 1))))
                every = list(books(crews, present, 1, kept=kept))
                for first in left_in(crews, present):
                    some = [book for book in every if page_of(book, present) == first]
                    self.assertEqual(list(books(crews, present, 1, kept=kept, first=first)), some)
                    for book in some:
                        self.assertEqual(lets_book(crews, present, 1, book, kept=kept, first=first), len(book))

    def test_a_restricted_book_is_a_book_for_the_smaller_set(self):
        rnd = Random(22)
        for _ in range(60):
            crews = random_crews(rnd, 'abcd', 5)
            people = people_in(crews)
            kept = tuple(rnd.sample(people, rnd.choice((0, 1))))
            for book in islice(books(crews, people, 1, kept=kept), 5):
                for some in subsets(people):
                    if set(kept) <= set(some):
                        pages = restricted(book, some, kept=kept)
                        self.assertEqual(lets_book(crews, some, 1, pages, kept=kept), len(pages))
                        self.assertLessEqual(set(crews_used(pages)), set(crews))

    def test_a_book_for_a_width_is_one_for_each_greater_width(self):
        for width in range(3):
            for book in islice(books(PAIRS, FIVE, width), 50):
                for greater in range(width, 5):
                    self.assertEqual(lets_book(PAIRS, FIVE, greater, book), len(book))

    def test_losses_that_are_followed_in_a_book(self):
        book = book_paper(PAIRS, FIVE, ('m', 'n'), 1)
        for lost in (('n', 'm'), ('m', 'n'), ('n', 'q')):
            crews = followed(book, FIVE, *lost)
            self.assertEqual(crews[0], ('m', 'n'))
            self.assertNotIn(None, crews)

    def test_situations_after_losses_answered_by_the_book_are_booked(self):
        rnd = Random(23)
        for _ in range(60):
            crews = random_crews(rnd, 'abcde', 6)
            people = people_in(crews)
            for crew in booked_crews(crews, people, 1):
                book = book_paper(crews, people, crew, 1)
                for some, other in rnd.sample(book, min(len(book), 6)):
                    self.assertIs(is_booked(crews, some, other, 1), True)
                    self.assertIsNone(refusal_paper(crews, some, other, 1))


class TestEitherPaper(CrewTest):
    def test_exactly_one_of_both_papers_is_there(self):
        rnd = Random(24)
        seen = []
        for crews in [PAIRS, TWO, FOUR] + [random_crews(rnd, 'abcde', 7) for _ in range(100)]:
            for width in range(4):
                for crew in left_in(crews, people_in(crews)):
                    self.check_papers(crews, people_in(crews), crew, width, seen)
        for width in range(4):
            for crew in WIDE:
                self.check_papers(WIDE, ALL, crew, width, seen)
        self.assertEqual(set(seen), {True, False})

    def check_papers(self, crews, present, crew, width, seen):
        book = book_paper(crews, present, crew, width)
        tree = refusal_paper(crews, present, crew, width)
        self.assertNotEqual(book is None, tree is None)
        self.assertIs(is_booked(crews, present, crew, width), tree is None)
        self.assertIs(crew in booked_crews(crews, present, width), tree is None)
        seen.append(tree is None)

    def test_a_greater_width_and_more_kept_people_leave_no_tree(self):
        rnd = Random(25)
        for crews in [PAIRS] + [random_crews(rnd, 'abcde', 7) for _ in range(60)]:
            present = people_in(crews)
            for crew in crews:
                none = [refusal_paper(crews, present, crew, width) is None for width in range(5)]
                self.assertEqual(none, sorted(none))
                if none[1]:
                    kept = tuple(sorted(rnd.sample(present, rnd.randint(0, len(present)))))
                    self.assertIsNone(refusal_paper(crews, present, crew, 1, kept=kept))

    def test_situations_of_good_crews_are_booked_for_width_one(self):
        for crews in all_crews(('a', 'b', 'c', 'd'), 4):
            if lets_good(crews, good_paper(crews)):
                for present in subsets(people_in(crews)):
                    self.assertEqual(booked_crews(crews, present, 1), left_in(crews, present))
                    for crew in left_in(crews, present):
                        self.assertIsNone(refusal_paper(crews, present, crew, 1))

    def test_the_first_crews_of_good_crews_are_a_book(self):
        for crews in (TWO, (('a', 'b'), ('a', 'c'), ('b', 'c'))):
            pages = tuple((some, first_crew(crews, some, 'c', 'a')) for some in relevant_directly(crews, ABC, ()))
            self.assertIn(pages, list(books(crews, ABC, 1)))

    def test_all_three_are_different(self):
        self.assertIs(is_booked(WIDE, ALL, BIG, 1), False)
        self.assertIs(is_booked(PAIRS, FIVE, ('m', 'n'), 1), True)


class TestUnknownPeople(CrewTest):
    """Functions of the stages 9 to 12, called with unknown names in some of their parameters."""

    CALLS = (
        (allowed_crews, ('crews', 'pages', 'present', 'width')),
        (lets_book, ('crews', 'present', 'width', 'thing')),
        (lambda *arguments, **named: list(books(*arguments, **named)), ('crews', 'present', 'width')),
        (is_booked, ('crews', 'present', 'crew', 'width')),
        (book_paper, ('crews', 'present', 'crew', 'width')),
        (booked_crews, ('crews', 'present', 'width')),
        (refusal_paper, ('crews', 'present', 'crew', 'width')),
        (lets_refusal, ('crews', 'present', 'crew', 'width', 'thing')),
    )
    RIGHT = {'crews': TWO, 'pages': (), 'present': ABC, 'crew': ('a', 'b'), 'width': 1, 'thing': None, 'kept': ('a',)}
    WRONG = {'present': ('a', 'p', 'q'), 'crew': ('a', 'r', 's'), 'kept': ('b', 't', 'u')}
    FIRST = {'present': 'p', 'crew': 'r', 'kept': 't'}

    def test_the_first_name_parameter_by_parameter(self):
        for function, parameters in self.CALLS:
            groups = [name for name in parameters + ('kept',) if name in self.WRONG]
            for k, name in enumerate(groups):
                values = {**self.RIGHT, **{other: self.WRONG[other] for other in groups[k:]}}
                arguments = [values[parameter] for parameter in parameters]
                self.unknown(self.FIRST[name], function, *arguments, kept=values['kept'])

    def test_right_names(self):
        for function, parameters in self.CALLS:
            arguments = [self.RIGHT[parameter] for parameter in parameters]
            if 'thing' in parameters:
                self.refuse(function, 'shape', -1, *arguments, kept=self.RIGHT['kept'])
            else:
                function(*arguments, kept=self.RIGHT['kept'])

    def test_names_in_books_and_first_are_not_checked(self):
        pages = ((('x', 'y'), ('x',)),)
        self.assertEqual(page_of(pages, ('x', 'y')), ('x',))
        self.assertEqual(followed(pages, ('x', 'y', 'z'), 'z', 'x'), (None, ('x',), None))
        self.assertEqual(restricted(pages, ('x', 'y')), pages)
        self.assertEqual(crews_used(pages), (('x',),))
        self.refuse(lets_book, 'first', -1, TWO, ABC, 1, BOOK, first=('x', 'y'))
        self.refuse(lets_book, 'set', 0, TWO, ABC, 1, pages, first=('x', 'y'))


if __name__ == '__main__':
    unittest.main()
