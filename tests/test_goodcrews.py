import unittest
from itertools import permutations

from crewbook.bookchecker import lets_book
from crewbook.errors import UnknownPerson
from crewbook.goodcrews import first_crew, is_good
from tests.samples import (FIVE, PAIRS, THIRTEEN, WIDE, all_careless, all_crews, good_directly, left_in, people_in,
                           relevant_directly, subsets)


class TestIsGood(unittest.TestCase):
    def test_good_crews(self):
        for crews in ((('a',),), (('a', 'b'), ('a', 'c')), (('a', 'b'), ('a', 'c'), ('b', 'c')),
                      (('a', 'c'), ('a', 'd'), ('b', 'c'), ('b', 'd')), tuple((name,) for name in THIRTEEN[:12])):
            self.assertIs(is_good(crews), True)
            self.assertIs(is_good(crews=crews), True)

    def test_other_crews(self):
        for crews in (PAIRS, WIDE, (('a', 'b'), ('c', 'd')), (('a', 'b'), ('c',)), (('a',), ('b', 'c')),
                      (('a', 'b'), ('a', 'c'), ('b', 'd'))):
            self.assertIs(is_good(crews), False)

    def test_against_the_definition(self):
        for crews in all_crews(('a', 'b', 'c', 'd'), 4):
            self.assertIs(is_good(crews), good_directly(crews), crews)

    def test_exactly_good_crews_are_careless(self):
        for crews in all_crews(('a', 'b', 'c', 'd'), 4):
            self.assertIs(is_good(crews), all_careless(crews), crews)

    def test_good_crews_are_equally_large(self):
        for crews in all_crews(('a', 'b', 'c', 'd'), 4):
            if is_good(crews):
                self.assertEqual(len({len(crew) for crew in crews}), 1)


class TestFirstCrew(unittest.TestCase):
    def test_example_of_the_document(self):
        self.assertEqual([first_crew(PAIRS, FIVE, 'q', 'n'), first_crew(PAIRS, FIVE)], [('n', 'q'), ('m', 'n')])

    def test_persons_who_do_not_fit_in_are_left_out(self):
        self.assertEqual(first_crew(PAIRS, FIVE, 'r', 'm'), ('q', 'r'))
        self.assertEqual(first_crew(PAIRS, FIVE, 'p', 'q', 'r'), ('m', 'p'))
        self.assertEqual(first_crew(PAIRS, ('m', 'n', 'p', 'q'), 'r', 'q'), ('m', 'q'))
        self.assertEqual(first_crew(PAIRS, ('m', 'n', 'p', 'q'), 'r', 'q', 'n'), ('n', 'q'))
        self.assertEqual(first_crew(PAIRS, ('m', 'n'), 'p', 'q', 'r'), ('m', 'n'))

    def test_no_crew_is_left(self):
        self.assertIsNone(first_crew(PAIRS, ('m', 'r'), 'm'))
        self.assertIsNone(first_crew(PAIRS, ()))
        self.assertIsNone(first_crew(crews=PAIRS, present=('p', 'q')))

    def test_against_the_definition(self):
        for present in subsets(FIVE):
            for order in permutations(FIVE, 3):
                left = left_in(PAIRS, present)
                best = max(left, default=None, key=lambda crew: (
                    [person in crew for person in order], [-ord(person) for person in crew]))
                self.assertEqual(first_crew(PAIRS, present, *order), best)

    def test_in_good_crews_the_first_crews_are_a_book(self):
        for crews in all_crews(('a', 'b', 'c'), 3) + [(('a', 'c'), ('a', 'd'), ('b', 'c'), ('b', 'd'))]:
            people = people_in(crews)
            for order in permutations(people):
                if is_good(crews):
                    pages = tuple((some, first_crew(crews, some, *order))
                                  for some in relevant_directly(crews, people, ()))
                    self.assertEqual(lets_book(crews, people, 1, pages), len(pages))

    def test_unknown_people(self):
        for present, order, person in ((('m', 'z'), ('y',), 'z'), (FIVE, ('m', 'y', 'x'), 'y'), (('r', 's'), (), 's')):
            with self.assertRaises(UnknownPerson) as caught:
                first_crew(PAIRS, present, *order)
            self.assertEqual(caught.exception.person, person)


if __name__ == '__main__':
    unittest.main()
