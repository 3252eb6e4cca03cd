import unittest
from random import Random

from crewbook.errors import InvalidPaper
from crewbook.steadiness import is_steady
from crewbook.steadychecker import lets_steady
from crewbook.steadypapers import steady_paper
from tests.samples import (FIVE, FOUR, PAIRS, TWO, CrewTest, all_crews, people_in, random_crews, states_in, steady_directly)


class TestSteadyPaper(CrewTest):
    def accept(self, crews, present, crew, width, kept=()):
        """Check that the paper is accepted, and return whether it says that the state is steady."""
        paper = steady_paper(crews, present, crew, width, kept=kept)
        steady = lets_steady(crews, present, crew, width, paper, kept=kept)
        self.assertEqual(paper[0], 'steady' if steady else 'unsteady')
        self.assertEqual([type(paper), type(paper[1])], [tuple, tuple])
        for row in paper[1]:
            self.assertEqual([type(part) for part in row], [tuple, tuple] if steady else [tuple, tuple, int, tuple])
        return steady

    def test_example_of_the_document(self):
        self.assertEqual([self.accept(PAIRS, FIVE, ('m', 'n'), width) for width in (1, 2)], [False, True])

    def test_small_papers(self):
        one = (('a',),)
        self.assertEqual(steady_paper(one, (), (), 0), ('steady', (((), ()), (('a',), ('a',)))))
        self.assertEqual(steady_paper(one, ('a',), ('a',), 0, kept=('a',)), ('steady', ((('a',), ('a',)),)))
        self.assertEqual(steady_paper(FOUR, people_in(FOUR), FOUR[0], 1)[0], 'unsteady')

    def test_no_crew_is_left(self):
        self.assertIs(self.accept(TWO, (), (), 1), True)
        self.assertIs(self.accept(TWO, ('b', 'c'), (), 0), False)
        self.assertIs(self.accept(TWO, ('b', 'c'), (), 0, ('b', 'c')), True)

    def test_against_a_direct_search(self):
        answers = []
        for crews in all_crews(('a', 'b', 'c'), 3):
            people = people_in(crews)
            for kept in ((), people[:1], people[-1:], people):
                for width in (0, 1, 2):
                    steady = steady_directly(crews, width, kept)
                    for present, crew in states_in(crews):
                        answers.append(self.accept(crews, present, crew, width, kept))
                        self.assertIs(answers[-1], (present, crew) in steady)
        self.assertEqual(set(answers), {True, False})

    def test_against_is_steady_in_larger_crews(self):
        rnd = Random(45)
        answers = []
        for _ in range(60):
            crews = random_crews(rnd, 'abcde', 8)
            kept = tuple(person for person in people_in(crews) if rnd.random() < 0.1)
            for present, crew in rnd.sample(states_in(crews), min(6, len(states_in(crews)))):
                width = rnd.choice((0, 1, 1, 2))
                answers.append(self.accept(crews, present, crew, width, kept))
                self.assertIs(answers[-1], is_steady(crews, present, crew, width, kept=kept))
        self.assertEqual(set(answers), {True, False})

    def test_six_people(self):
        crews = tuple((one, two) for one in 'abc' for two in 'def')
        self.assertEqual([self.accept(crews, tuple('abcdef'), ('a', 'd'), width) for width in (0, 1)], [False, True])

    def test_papers_of_other_states_are_accepted_only_where_they_are_true(self):
        accepted = 0
        for width in (0, 1):
            for kept in ((), ('a',), ('b',), ('b', 'c')):
                steady = steady_directly(TWO, width, kept)
                for other in states_in(TWO):
                    for other_width in (0, 1):
                        paper = steady_paper(TWO, *other, other_width)
                        for present, crew in states_in(TWO):
                            try:
                                result = lets_steady(TWO, present, crew, width, paper, kept=kept)
                                self.assertIs(result, (present, crew) in steady)
                                accepted += 1
                            except InvalidPaper:
                                pass
        self.assertGreater(accepted, 100)

    def test_arguments(self):
        self.assertEqual(steady_paper(crews=TWO, present=('a',), crew=(), width=1, kept=()), steady_paper(TWO, ('a',), (), 1))
        self.by_name_only(steady_paper, TWO, ('a',), (), 1, ())

    def test_unknown_people(self):
        self.unknown('x', steady_paper, PAIRS, ('m', 'x', 'y'), ('w',), 1, kept=('z',))
        self.unknown('w', steady_paper, PAIRS, FIVE, ('m', 'w'), 1, kept=('z',))
        self.unknown('y', steady_paper, PAIRS, (), (), 1, kept=('m', 'y', 'z'))


if __name__ == '__main__':
    unittest.main()
