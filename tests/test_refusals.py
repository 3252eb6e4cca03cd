import unittest
from random import Random

from crewbook.bookchecker import lets_book
from crewbook.books import book_paper, booked_crews, is_booked
from crewbook.errors import InvalidPaper
from crewbook.refusalchecker import lets_refusal
from crewbook.refusals import refusal_paper
from tests.samples import (ALL, BIG, DEEP, FIVE, FOUR, PAIRS, SPLIT, TWO, WIDE, CrewTest, all_crews, books_directly, left_in,
                           people_in, random_crews, subsets)


def kinds_in(thing):
    """Return the kinds of all parts of nested tuples."""
    inner = [kind for part in thing for kind in kinds_in(part)] if isinstance(thing, tuple) else []
    return {type(thing), *inner}


class TestRefusalPaper(CrewTest):
    def accept(self, crews, present, crew, width, kept=()):
        """Check that there is either a book or a refusal tree, and return the number of nodes of the tree or None."""
        tree = refusal_paper(crews, present, crew, width, kept=kept)
        book = book_paper(crews, present, crew, width, kept=kept)
        if tree is None:
            self.assertEqual(lets_book(crews, present, width, book, kept=kept, first=crew), len(book))
            return None
        self.assertIsNone(book)
        self.assertLessEqual(kinds_in(tree), {tuple, str})
        return lets_refusal(crews, present, crew, width, tree, kept=kept)

    def test_example_of_the_document(self):
        self.assertIsNone(refusal_paper(PAIRS, FIVE, ('m', 'n'), 1))

    def test_pairs(self):
        for width in range(4):
            for crew in PAIRS:
                self.accept(PAIRS, FIVE, crew, width)
        self.assertEqual(self.accept(PAIRS, FIVE, ('m', 'p'), 1), 1)
        self.assertEqual(refusal_paper(PAIRS, FIVE, ('m', 'p'), 1), ((), ('none', ('n', 'p', 'q', 'r'))))

    def test_small_trees(self):
        self.assertEqual(self.accept(FOUR, people_in(FOUR), FOUR[0], 1), 1)
        self.assertEqual(self.accept(SPLIT, people_in(SPLIT), ('b', 'd', 'e'), 1), 3)
        self.assertGreaterEqual(self.accept(DEEP, people_in(DEEP), ('a', 'b', 'd', 'e'), 1), 3)
        self.assertEqual(self.accept(TWO, ('a', 'b', 'c'), ('a', 'b'), 0), 1)

    def test_wide(self):
        self.assertEqual(self.accept(WIDE, ALL, BIG, 1), 1)
        more = tuple(sorted(WIDE + (('a', 'p', 'r', 'x', 'y'),)))
        for crews in (WIDE, more):
            for width in range(4):
                for kept in ((), ('a',), ('c', 'p')):
                    numbers = [self.accept(crews, ALL, crew, width, kept) for crew in crews]
                    self.assertEqual(booked_crews(crews, ALL, width, kept=kept),
                                     tuple(crew for crew, number in zip(crews, numbers) if number is None))
        self.assertIsNotNone(self.accept(more, ALL, BIG, 1))

    def test_nobody_can_be_lost(self):
        self.assertIsNone(refusal_paper(FOUR, people_in(FOUR), FOUR[0], 0, kept=people_in(FOUR)))
        self.assertIsNone(refusal_paper(FOUR, FOUR[0], FOUR[0], 0))

    def test_kept_people_who_are_absent_have_no_effect(self):
        crews = FOUR + (('e',),)
        self.assertEqual(refusal_paper(crews, people_in(FOUR), FOUR[0], 1, kept=('e',)),
                         refusal_paper(crews, people_in(FOUR), FOUR[0], 1))

    def test_against_a_direct_search(self):
        booked = []
        for crews in all_crews(('a', 'b', 'c'), 3):
            people = people_in(crews)
            for present in subsets(people):
                for kept in ((), people[:1], people[-1:]):
                    for width in (0, 1, 2):
                        found = books_directly(crews, present, width, kept)
                        for crew in left_in(crews, present):
                            some = [book for book in found if (present, crew) in book]
                            self.assertIs(self.accept(crews, present, crew, width, kept) is None, bool(some))
                            booked.append(bool(some))
        self.assertEqual(set(booked), {True, False})

    def test_against_a_direct_search_in_larger_crews(self):
        rnd = Random(15)
        numbers = []
        for _ in range(150):
            crews = random_crews(rnd, 'abcd', 5)
            people, width = people_in(crews), rnd.choice((0, 1, 1, 2))
            kept = tuple(rnd.sample(people, rnd.choice((0, 0, 1))))
            found = books_directly(crews, people, width, kept)
            for crew in crews:
                some = [book for book in found if (people, crew) in book]
                numbers.append(self.accept(crews, people, crew, width, kept))
                self.assertIs(numbers[-1] is None, bool(some))
        self.assertGreater(len([number for number in numbers if number]), 50)

    def test_many_situations(self):
        rnd = Random(16)
        numbers = []
        for names, times in (('abcde', 300), ('abcdefgh', 40)):
            for _ in range(times):
                crews = random_crews(rnd, names, 12)
                people = people_in(crews)
                present = tuple(person for person in people if rnd.random() < 0.9)
                kept = tuple(person for person in people if rnd.random() < 0.1)
                for crew in left_in(crews, present):
                    numbers.append(self.accept(crews, present, crew, rnd.choice((0, 1, 1, 1, 2, 3)), kept))
        self.assertGreater(max(number or 0 for number in numbers), 4)
        self.assertIn(None, numbers)

    def test_trees_stay_small(self):
        # Without care for what does not matter, these trees have thousands of nodes.
        for crews, crew in (
                ((('a', 'b'), ('a', 'c'), ('a', 'd'), ('a', 'f'), ('b', 'd'), ('b', 'g'), ('c', 'e'), ('c', 'f'), ('c', 'h'),
                  ('d', 'g'), ('e', 'f', 'g', 'h')), ('a', 'b')),
                ((('a', 'b', 'c', 'd', 'g'), ('a', 'b', 'c', 'f'), ('a', 'b', 'e', 'f'), ('a', 'b', 'e', 'h'),
                  ('a', 'c', 'g', 'h'), ('a', 'd', 'h'), ('a', 'f', 'g'), ('b', 'c', 'd', 'f'), ('b', 'c', 'd', 'h'),
                  ('b', 'd', 'g', 'h'), ('c', 'e', 'g'), ('d', 'e')), ('a', 'b', 'e', 'h'))):
            self.assertLess(self.accept(crews, people_in(crews), crew, 2), 100)

    def test_a_tree_is_accepted_for_its_situation_only_where_there_is_no_book(self):
        trees = [refusal_paper(PAIRS, FIVE, crew, 0) for crew in PAIRS]
        for width in range(3):
            for crew in PAIRS:
                for tree in trees:
                    if is_booked(PAIRS, FIVE, crew, width) and tree is not None:
                        with self.assertRaises(InvalidPaper):
                            lets_refusal(PAIRS, FIVE, crew, width, tree)

    def test_arguments(self):
        self.assertEqual(refusal_paper(crews=FOUR, present=people_in(FOUR), crew=FOUR[0], width=1, kept=()),
                         refusal_paper(FOUR, people_in(FOUR), FOUR[0], 1))
        self.by_name_only(refusal_paper, FOUR, people_in(FOUR), FOUR[0], 1, ())

    def test_unknown_people(self):
        self.unknown('x', refusal_paper, FOUR, ('a', 'x', 'y'), ('w',), 1, kept=('z',))
        self.unknown('w', refusal_paper, FOUR, people_in(FOUR), ('a', 'w'), 1, kept=('z',))
        self.unknown('y', refusal_paper, FOUR, people_in(FOUR), FOUR[0], 1, kept=('a', 'y', 'z'))


if __name__ == '__main__':
    unittest.main()
