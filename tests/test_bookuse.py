import unittest

from crewbook.bookuse import crews_used, restricted
from tests.samples import BOOK, TWO, books_directly, relevant_directly, subsets


class TestRestricted(unittest.TestCase):
    def test_example_of_the_document(self):
        self.assertEqual(restricted(BOOK, ('a', 'c')), ((('a', 'c'), ('a', 'c')),))

    def test_pages_for_subsets_only(self):
        self.assertEqual(restricted(BOOK, ('a', 'b', 'c')), BOOK)
        self.assertEqual(restricted(BOOK, ('a', 'b')), BOOK[:1])
        self.assertEqual(restricted(BOOK, ('b', 'c')), ())
        self.assertEqual(restricted(BOOK, ()), ())
        self.assertEqual(restricted((), ('a',)), ())
        self.assertEqual(restricted(BOOK, ('a', 'b', 'c', 'd')), BOOK)

    def test_kept_people_of_present_are_on_each_page(self):
        self.assertEqual(restricted(BOOK, ('a', 'b', 'c'), kept=('b',)), BOOK[:2])
        self.assertEqual(restricted(BOOK, ('a', 'b', 'c'), kept=('b', 'c')), BOOK[1:2])
        self.assertEqual(restricted(BOOK, ('a', 'b', 'c'), kept=('a',)), BOOK)

    def test_kept_people_who_are_absent_have_no_effect(self):
        self.assertEqual(restricted(BOOK, ('a', 'c'), kept=('b',)), BOOK[2:])
        self.assertEqual(restricted(BOOK, ('a', 'c'), kept=('b', 'c')), BOOK[2:])

    def test_pages_that_are_no_book(self):
        pages = ((('a',), ('a',)), (('b', 'c'), ('c',)), (('c',), ('c',)))
        self.assertEqual(restricted(pages, ('b', 'c')), pages[1:])
        self.assertEqual(restricted(pages, ('b', 'c'), kept=('b',)), pages[1:2])

    def test_unknown_names_raise_no_error(self):
        self.assertEqual(restricted(BOOK, ('a', 'c', 'zz'), kept=('yy',)), BOOK[2:])
        self.assertEqual(restricted(BOOK, ('a', 'c', 'zz'), kept=('zz',)), ())

    def test_kept_is_passed_by_name_only(self):
        self.assertEqual(restricted(book=BOOK, present=('a', 'c'), kept=()), BOOK[2:])
        with self.assertRaises(TypeError):
            restricted(BOOK, ('a', 'c'), ())

    def test_a_restricted_book_is_a_book(self):
        for kept in ((), ('a',), ('b',)):
            for book in books_directly(TWO, ('a', 'b', 'c'), 1, kept):
                for people in subsets(('a', 'b', 'c')):
                    if set(kept) <= set(people):
                        smaller = restricted(book, people, kept=kept)
                        self.assertEqual([page[0] for page in smaller], relevant_directly(TWO, people, kept))
                        self.assertIn(smaller, books_directly(TWO, people, 1, kept))


class TestCrewsUsed(unittest.TestCase):
    def test_different_crews_ascending(self):
        self.assertEqual(crews_used(BOOK), (('a', 'b'), ('a', 'c')))
        self.assertEqual(crews_used(()), ())
        pages = ((('a', 'c'), ('c',)), (('a', 'd'), ('a',)), (('c', 'd'), ('c',)), (('c', 'e'), ('b', 'c')))
        self.assertEqual(crews_used(pages), (('a',), ('b', 'c'), ('c',)))
        self.assertEqual(crews_used(book=BOOK[1:2]), (('a', 'b'),))

    def test_results_are_tuples(self):
        for result in (crews_used(BOOK), crews_used(()), restricted(BOOK, ('a',)), restricted(BOOK, ('a', 'b'))):
            self.assertIs(type(result), tuple)


if __name__ == '__main__':
    unittest.main()
