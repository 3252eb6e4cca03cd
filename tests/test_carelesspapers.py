import unittest
from random import Random

from crewbook.careless import is_careless
from crewbook.carelesschecker import lets_careless
from crewbook.carelesspapers import careless_paper
from crewbook.errors import InvalidPaper
from tests.samples import (ALL, BIG, DEEP, FIVE, FOUR, LONG, PAIRS, WIDE, CrewTest, all_crews, is_careless_directly,
                           people_in, random_crews, remembered, situations_in)


class TestCarelessPaper(CrewTest):
    def accept(self, crews, present, crew, width, kept=()):
        """Check that the paper is accepted, and return whether it says that the situation is careless."""
        paper = careless_paper(crews, present, crew, width, kept=kept)
        careless = lets_careless(crews, present, crew, width, paper, kept=kept)
        self.assertEqual(paper[0], 'careless' if careless else 'stuck')
        self.assertEqual([type(part) for part in paper], [str, tuple] + [str] * (not careless))
        for row in paper[1]:
            self.assertEqual(type(row), tuple)
            self.assertEqual(type(row[0]), tuple if careless else str)
            self.assertIn(type(row[1]), (tuple,) if careless else (tuple, type(None)))
        return careless

    def test_examples_of_the_document(self):
        self.assertEqual([self.accept(WIDE, ALL, BIG, width) for width in range(9)], [False, True, False] + [True] * 6)
        self.assertIs(self.accept(PAIRS, FIVE, ('m', 'n'), 1), False)
        more = tuple(sorted(WIDE + (('a', 'p', 'r', 'x', 'y'),)))
        self.assertIs(self.accept(more, ALL, BIG, 1), False)

    def test_small_papers(self):
        self.assertEqual(careless_paper((('a',),), ('a',), ('a',), 0), ('careless', ((('a',), ('a',)),)))
        self.assertEqual(careless_paper(PAIRS, ('m', 'p', 'q', 'r'), ('m', 'p'), 1), ('stuck', (), 'm'))
        self.assertEqual(careless_paper(FOUR, ('a', 'b', 'c'), ('a', 'b'), 0),
                         ('careless', ((('a', 'b'), ('a', 'b')), (('a', 'b', 'c'), ('a', 'b')))))

    def test_nobody_can_be_lost(self):
        for present, crew in situations_in(FOUR):
            self.assertEqual(careless_paper(FOUR, present, crew, 0, kept=present), ('careless', ((present, crew),)))

    def test_ways_with_several_steps(self):
        rnd = Random(91)
        steps = []
        for crews in [LONG, DEEP] + [random_crews(rnd, 'abcdef', 9) for _ in range(60)]:
            for crew in crews:
                if not self.accept(crews, people_in(crews), crew, 1):
                    steps += careless_paper(crews, people_in(crews), crew, 1)[1][1:]
        self.assertEqual({answer is None for _, answer in steps}, {True, False})

    def test_against_a_direct_search(self):
        answers = []
        for crews in all_crews(('a', 'b', 'c'), 3) + all_crews('abcd', 6)[::4]:
            people = people_in(crews)
            for present, crew in situations_in(crews):
                for kept in ((), people[:1], people[-1:], people):
                    for width in (0, 1, 2):
                        answers.append(self.accept(crews, present, crew, width, kept))
                        self.assertIs(answers[-1], is_careless_directly(crews, present, crew, width, kept))
        self.assertEqual(set(answers), {True, False})

    def test_against_a_direct_search_in_larger_crews(self):
        rnd = Random(92)
        answers = []
        for _ in range(150):
            crews = random_crews(rnd, 'abcdef', 9)
            people = people_in(crews)
            kept = tuple(person for person in people if rnd.random() < 0.1)
            width = rnd.choice((0, 1, 1, 2, 3))
            _, careless = remembered(crews, width, kept)
            for present, crew in rnd.sample(situations_in(crews), min(10, len(situations_in(crews)))):
                answers.append(self.accept(crews, present, crew, width, kept))
                self.assertIs(answers[-1], careless(present, crew))
                self.assertIs(answers[-1], is_careless(crews, present, crew, width, kept=kept))
        self.assertEqual(set(answers), {True, False})

    def test_seven_people_and_twelve_crews(self):
        crews = tuple((one, two) for one in 'abc' for two in 'defg')
        self.assertEqual([self.accept(crews, people_in(crews), crews[0], width) for width in range(3)], [False, True, True])

    def test_kept_people_who_are_absent_have_no_effect(self):
        crews = FOUR + (('e',),)
        for width in (1, 2):
            self.assertEqual(careless_paper(crews, people_in(FOUR), FOUR[0], width, kept=('e',)),
                             careless_paper(crews, people_in(FOUR), FOUR[0], width))

    def test_papers_of_other_situations_are_accepted_only_where_they_are_true(self):
        rnd = Random(93)
        accepted = 0
        for _ in range(40):
            crews = random_crews(rnd, 'abcd', 5)
            people = people_in(crews)
            papers = [careless_paper(crews, people, crew, width) for crew in crews for width in (0, 1, 2)]
            for crew in crews:
                for width in (0, 1, 2):
                    careless = is_careless_directly(crews, people, crew, width)
                    for paper in papers:
                        accepted += self.is_accepted(crews, people, crew, width, paper, careless)
        self.assertGreater(accepted, 100)

    def is_accepted(self, crews, people, crew, width, paper, careless):
        try:
            self.assertIs(lets_careless(crews, people, crew, width, paper), careless)
        except InvalidPaper:
            return False
        return True

    def test_arguments(self):
        self.assertEqual(careless_paper(crews=PAIRS, present=FIVE, crew=('m', 'n'), width=1, kept=()),
                         careless_paper(PAIRS, FIVE, ('m', 'n'), 1))
        self.by_name_only(careless_paper, PAIRS, FIVE, ('m', 'n'), 1, ())

    def test_unknown_people(self):
        self.unknown('x', careless_paper, PAIRS, ('m', 'x', 'y'), ('w',), 1, kept=('z',))
        self.unknown('w', careless_paper, PAIRS, FIVE, ('m', 'w'), 1, kept=('z',))
        self.unknown('y', careless_paper, PAIRS, FIVE, ('m', 'n'), 1, kept=('m', 'y', 'z'))


if __name__ == '__main__':
    unittest.main()
