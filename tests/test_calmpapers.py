import unittest
from random import Random

from crewbook.calmchecker import lets_calm
from crewbook.calmpapers import calm_paper
from crewbook.books import booked_crews
from tests.samples import (ALL, BIG, DEEP, FIVE, FOUR, PAIRS, TWO, WIDE, CrewTest, all_crews, is_calm_directly,
                           is_careless_directly, left_in, people_in, random_crews, subsets)


class TestCalmPaper(CrewTest):
    def accept(self, crews, present, crew, width, kept=()):
        """Check that the paper is accepted, and return whether it says that the situation is calm."""
        paper = calm_paper(crews, present, crew, width, kept=kept)
        calm = lets_calm(crews, present, crew, width, paper, kept=kept)
        self.assertEqual(paper[0], 'calm' if calm else 'not')
        self.assertEqual([type(paper), type(paper[1])], [tuple, tuple])
        for row in paper[1]:
            self.assertEqual([type(part) for part in row], [tuple, tuple, tuple if calm else str])
        return calm

    def test_examples_of_the_document(self):
        self.assertEqual([crew for crew in PAIRS if self.accept(PAIRS, FIVE, crew, 1)],
                         [('m', 'n'), ('m', 'q'), ('n', 'q')])
        self.assertEqual(calm_paper(PAIRS, ('m', 'p', 'q', 'r'), ('m', 'p'), 1),
                         ('not', ((('m', 'p', 'q', 'r'), ('m', 'p'), 'm'),)))
        self.assertIs(self.accept(WIDE, ALL, BIG, 1), True)
        more = tuple(sorted(WIDE + (('a', 'p', 'r', 'x', 'y'),)))
        self.assertIs(self.accept(more, ALL, BIG, 1), True)

    def test_small_papers(self):
        self.assertEqual(calm_paper((('a',),), ('a',), ('a',), 0), ('calm', ((('a',), ('a',), (None,)),)))
        self.assertEqual(calm_paper(TWO, ('a', 'b', 'c'), ('a', 'b'), 0)[0], 'not')
        self.assertEqual(calm_paper(TWO, ('a', 'b', 'c'), ('a', 'b'), 0, kept=('b',)), (
            'calm', ((('a', 'b'), ('a', 'b'), (None,)), (('a', 'b', 'c'), ('a', 'b'), (None, ('a', 'b'))))))

    def test_nobody_can_be_lost(self):
        for crew in FOUR:
            self.assertEqual(calm_paper(FOUR, people_in(FOUR), crew, 0, kept=people_in(FOUR)),
                             ('calm', ((people_in(FOUR), crew, ()),)))

    def test_against_a_direct_search(self):
        answers = []
        for crews in all_crews(('a', 'b', 'c'), 3):
            people = people_in(crews)
            for present in subsets(people):
                for crew in left_in(crews, present):
                    for kept in ((), people[:1], people[-1:], people):
                        for width in (0, 1, 2):
                            calm = self.accept(crews, present, crew, width, kept)
                            self.assertIs(calm, is_calm_directly(crews, present, crew, width, kept))
                            answers.append(calm)
        self.assertEqual(set(answers), {True, False})

    def test_against_a_direct_search_in_larger_crews(self):
        rnd = Random(34)
        answers = []
        for _ in range(150):
            crews = random_crews(rnd, 'abcde', 7)
            people = people_in(crews)
            present = tuple(person for person in people if rnd.random() < 0.9)
            kept = tuple(person for person in people if rnd.random() < 0.1)
            for crew in left_in(crews, present):
                width = rnd.choice((0, 1, 1, 2))
                answers.append(self.accept(crews, present, crew, width, kept))
                self.assertIs(answers[-1], is_calm_directly(crews, present, crew, width, kept))
        self.assertEqual(set(answers), {True, False})

    def test_careless_and_booked_situations_are_calm(self):
        rnd = Random(35)
        for crews in [PAIRS, DEEP] + [random_crews(rnd, 'abcd', 6) for _ in range(60)]:
            people = people_in(crews)
            for width in (0, 1, 2):
                booked = booked_crews(crews, people, width)
                for crew in crews:
                    if crew in booked or is_careless_directly(crews, people, crew, width):
                        self.assertIs(self.accept(crews, people, crew, width), True)

    def test_a_greater_width_and_more_kept_people_keep_calm(self):
        rnd = Random(36)
        for crews in [PAIRS] + [random_crews(rnd, 'abcde', 7) for _ in range(60)]:
            people = people_in(crews)
            for crew in crews:
                calm = [self.accept(crews, people, crew, width) for width in range(5)]
                self.assertEqual(calm, sorted(calm))
                kept = tuple(sorted(rnd.sample(people, rnd.randint(0, len(people)))))
                self.assertGreaterEqual(self.accept(crews, people, crew, 1, kept), calm[1])

    def test_seven_people_and_twelve_crews(self):
        crews = tuple((one, two) for one in 'abc' for two in 'defg')
        for width in range(3):
            self.accept(crews, people_in(crews), crews[0], width)

    def test_kept_people_who_are_absent_have_no_effect(self):
        crews = FOUR + (('e',),)
        self.assertEqual(calm_paper(crews, people_in(FOUR), FOUR[0], 1, kept=('e',)),
                         calm_paper(crews, people_in(FOUR), FOUR[0], 1))

    def test_arguments(self):
        self.assertEqual(calm_paper(crews=PAIRS, present=FIVE, crew=('m', 'n'), width=1, kept=()),
                         calm_paper(PAIRS, FIVE, ('m', 'n'), 1))
        self.by_name_only(calm_paper, PAIRS, FIVE, ('m', 'n'), 1, ())

    def test_unknown_people(self):
        self.unknown('x', calm_paper, PAIRS, ('m', 'x', 'y'), ('w',), 1, kept=('z',))
        self.unknown('w', calm_paper, PAIRS, FIVE, ('m', 'w'), 1, kept=('z',))
        self.unknown('y', calm_paper, PAIRS, FIVE, ('m', 'n'), 1, kept=('m', 'y', 'z'))


class TestOneForm(CrewTest):
    def test_papers_of_other_situations_are_accepted_only_where_they_are_true(self):
        rnd = Random(37)
        accepted = 0
        for _ in range(40):
            crews = random_crews(rnd, 'abcd', 5)
            people = people_in(crews)
            papers = [calm_paper(crews, people, crew, width) for crew in crews for width in (0, 1, 2)]
            for crew in crews:
                for width in (0, 1, 2):
                    calm = is_calm_directly(crews, people, crew, width)
                    for paper in papers:
                        accepted += self.is_accepted(crews, people, crew, width, paper, calm)
        self.assertGreater(accepted, 100)

    def is_accepted(self, crews, people, crew, width, paper, calm):
        try:
            self.assertIs(lets_calm(crews, people, crew, width, paper), calm)
        except ValueError:
            return False
        return True


if __name__ == '__main__':
    unittest.main()
