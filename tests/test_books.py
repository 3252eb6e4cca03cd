import inspect
import unittest
from itertools import islice
from random import Random

from crewbook.bookchecker import lets_book
from crewbook.books import book_paper, booked_crews, books, is_booked
from crewbook.errors import UnknownPerson
from tests.samples import (ALL, BIG, BOOK, FIVE, PAIRS, TWO, WIDE, all_crews, books_directly, left_in, people_in, subsets)

ABC = ('a', 'b', 'c')


class TestBooks(unittest.TestCase):
    def test_example_of_the_document(self):
        self.assertEqual(len(list(books(TWO, ABC, 1))), 2)
        self.assertEqual(list(books(TWO, ABC, 1)), books_directly(TWO, ABC, 1))
        self.assertIn(BOOK, books(TWO, ABC, 1))

    def test_first(self):
        self.assertEqual(list(books(TWO, ABC, 1, first=('a', 'b'))), [BOOK])
        self.assertEqual(list(books(TWO, ABC, 0, first=('a', 'b'))), [])
        self.assertEqual(list(books(TWO, ABC, 1, first=None)), list(books(TWO, ABC, 1)))
        self.assertEqual(list(books(WIDE, ALL, 1, first=BIG)), [])

    def test_first_that_is_not_left(self):
        for first in ((), ('a',), ('zz',), ('a', 'c')):
            self.assertEqual(list(books(TWO, ('a', 'b'), 1, first=first)), [])

    def test_no_crew_is_left(self):
        for present in ((), ('a',), ('b', 'c')):
            self.assertEqual(list(books(TWO, present, 1)), [()])
            self.assertEqual(list(books(TWO, present, 1, kept=('b',))), [()])

    def test_a_generator_raises_when_the_first_is_asked_for(self):
        for present, kept, person in ((('a', 'z'), ('y',), 'z'), (ABC, ('x', 'y'), 'x')):
            result = books(TWO, present, 1, kept=kept)
            self.assertTrue(inspect.isgenerator(result))
            with self.assertRaises(UnknownPerson) as caught:
                next(result)
            self.assertEqual(caught.exception.person, person)

    def test_a_second_generator_starts_again(self):
        one, two = books(PAIRS, FIVE, 1), books(PAIRS, FIVE, 1)
        first = next(one)
        self.assertNotEqual(next(one), first)
        self.assertEqual(next(two), first)
        self.assertEqual(list(one), list(books(PAIRS, FIVE, 1))[2:])
        self.assertEqual(list(one), [])

    def test_arguments_by_name(self):
        named = books(crews=TWO, present=ABC, width=1, kept=(), first=None)
        self.assertEqual(list(named), list(books(TWO, ABC, 1)))
        for arguments in ((TWO, ABC, 1, ()), (TWO, ABC, 1, (), None)):
            with self.assertRaises(TypeError):
                books(*arguments)

    def test_against_a_direct_search(self):
        for crews in all_crews(ABC, 3):
            people = people_in(crews)
            for present in subsets(people):
                for kept in ((), people[:1], people[-1:], people[:2]):
                    for width in (0, 1, 2):
                        self.compare(crews, present, width, kept)

    def test_against_a_direct_search_in_larger_crews(self):
        rnd = Random(9)
        pool = all_crews(('a', 'b', 'c', 'd'), 4)
        for _ in range(150):
            crews = rnd.choice(pool)
            kept = tuple(rnd.sample(people_in(crews), rnd.choice((0, 0, 0, 1)) if len(people_in(crews)) > 1 else 0))
            self.compare(crews, people_in(crews), rnd.choice((0, 1, 1, 2)), kept)

    def compare(self, crews, present, width, kept):
        expected = books_directly(crews, present, width, kept)
        self.assertEqual(list(books(crews, present, width, kept=kept)), expected)
        booked = []
        for crew in left_in(crews, present):
            some = [book for book in expected if (present, crew) in book]
            self.assertEqual(list(books(crews, present, width, kept=kept, first=crew)), some)
            self.assertIs(is_booked(crews, present, crew, width, kept=kept), bool(some))
            self.assertIn(book_paper(crews, present, crew, width, kept=kept), some or [None])
            booked += [crew] if some else []
        self.assertEqual(booked_crews(crews, present, width, kept=kept), tuple(booked))

    def test_seven_people(self):
        crews = tuple((one, two) for one in 'abc' for two in 'defg')
        found = list(islice(books(crews, tuple('abcdefg'), 2), 50))
        self.assertEqual(len(found), 50)
        self.assertEqual(found, sorted(set(found)))
        for book in found:
            self.assertEqual(lets_book(crews, tuple('abcdefg'), 2, book), len(book))


class TestBooked(unittest.TestCase):
    def test_examples_of_the_document(self):
        self.assertIs(is_booked(PAIRS, FIVE, ('m', 'n'), 1), True)
        self.assertEqual(dict(book_paper(PAIRS, FIVE, ('m', 'n'), 1))['m', 'p', 'q', 'r'], ('m', 'q'))
        self.assertEqual(booked_crews((('a', 'b'), ('c', 'd')), ('a', 'b', 'c', 'd'), 1), ())
        pages = dict(book_paper(PAIRS, FIVE, ('m', 'n'), 1))
        self.assertEqual([pages[people] for people in (('n', 'p', 'q', 'r'), ('p', 'q', 'r'), ('m', 'p', 'r'))],
                         [('n', 'q'), ('q', 'r'), ('m', 'p')])

    def test_careless_is_not_booked(self):
        self.assertIs(is_booked(WIDE, ALL, BIG, 1), False)
        self.assertIsNone(book_paper(WIDE, ALL, BIG, 1))
        more = tuple(sorted(WIDE + (('a', 'p', 'r', 'x', 'y'),)))
        self.assertIs(is_booked(more, ALL, BIG, 1), False)

    def test_papers_are_accepted(self):
        for crews, present in ((PAIRS, FIVE), (WIDE, ALL)):
            for width in (0, 1, 2, 3):
                for kept in ((), present[:1], present[2:5]):
                    booked = booked_crews(crews, present, width, kept=kept)
                    for crew in left_in(crews, present):
                        paper = book_paper(crews, present, crew, width, kept=kept)
                        self.assertIs(crew in booked, paper is not None)
                        if paper is not None:
                            self.assertEqual(
                                lets_book(crews, present, width, paper, kept=kept, first=crew), len(paper))

    def test_a_greater_width_and_more_kept_people_keep_booked(self):
        for crews, present in ((PAIRS, FIVE), (WIDE, ALL)):
            booked = [set(booked_crews(crews, present, width)) for width in range(5)]
            for k in range(4):
                self.assertLessEqual(booked[k], booked[k + 1])
            for kept in (present[:1], present[1:2], present[:3]):
                self.assertLessEqual(booked[1], set(booked_crews(crews, present, 1, kept=kept)))

    def test_kept_people_who_are_absent_have_no_effect(self):
        self.assertEqual(booked_crews(PAIRS, ('m', 'n', 'p', 'r'), 1, kept=('q',)),
                         booked_crews(PAIRS, ('m', 'n', 'p', 'r'), 1))

    def test_no_crew_is_left(self):
        self.assertEqual(booked_crews(PAIRS, ('m', 'r'), 1), ())
        self.assertEqual(booked_crews(PAIRS, (), 1), ())

    def test_unknown_people_parameter_by_parameter(self):
        for function in (is_booked, book_paper):
            for present, crew, kept, person in (
                    (('m', 'z'), ('y',), ('x',), 'z'), (FIVE, ('m', 'y'), ('x',), 'y'), (FIVE, ('m', 'n'), ('q', 'x'), 'x')):
                with self.assertRaises(UnknownPerson) as caught:
                    function(PAIRS, present, crew, 1, kept=kept)
                self.assertEqual(caught.exception.person, person)
        for present, kept, person in ((('m', 'z'), ('x',), 'z'), (FIVE, ('x',), 'x')):
            with self.assertRaises(UnknownPerson) as caught:
                booked_crews(PAIRS, present, 1, kept=kept)
            self.assertEqual(caught.exception.person, person)

    def test_arguments_by_name(self):
        self.assertIs(is_booked(crews=PAIRS, present=FIVE, crew=('m', 'n'), width=1, kept=()), True)
        self.assertEqual(booked_crews(crews=PAIRS, present=FIVE, width=2, kept=()), PAIRS)
        for function in (is_booked, book_paper):
            with self.assertRaises(TypeError):
                function(PAIRS, FIVE, ('m', 'n'), 1, ())


if __name__ == '__main__':
    unittest.main()
