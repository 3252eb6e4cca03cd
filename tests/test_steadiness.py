import unittest
from random import Random

from crewbook.goodcrews import is_good
from crewbook.steadiness import is_steady
from tests.samples import (FIVE, FOUR, PAIRS, TWO, CrewTest, all_crews, is_calm_directly, people_in, random_crews,
                           states_in, steady_by_all_sets, steady_directly)

THREE = (('a',), ('b',), ('c',))


class TestIsSteady(CrewTest):
    def test_example_of_the_document(self):
        self.assertEqual([is_steady(PAIRS, FIVE, ('m', 'n'), 1), is_steady(PAIRS, FIVE, ('m', 'n'), 2)], [False, True])

    def test_one_crew(self):
        for present, crew in states_in((('a', 'b'),)):
            self.assertIs(is_steady((('a', 'b'),), present, crew, 0), True)

    def test_width_zero(self):
        self.assertIs(is_steady(TWO, ('a', 'b', 'c'), ('a', 'b'), 0), False)
        self.assertIs(is_steady(TWO, ('a', 'b', 'c'), ('a', 'b'), 1), True)
        self.assertIs(is_steady(TWO, ('a', 'b', 'c'), ('a', 'b'), 0, kept=('a', 'b')), True)
        # While b and c are not both present, nothing is wrong, but both can come.
        self.assertIs(is_steady(TWO, (), (), 0), False)

    def test_no_crew_is_left(self):
        for present in ((), ('a',), ('b', 'c')):
            self.assertIs(is_steady(TWO, present, (), 1), True)
            self.assertIs(is_steady(TWO, present, (), 0), False)
        for present in ((), ('a', 'c'), ('b', 'd')):
            self.assertIs(is_steady(FOUR, present, (), 1), False)
            self.assertIs(is_steady(FOUR, present, (), 2), True)

    def test_any_crew_that_is_left_may_begin(self):
        # When a comes back, (a, b) must begin: the loss of c would be stuck.
        self.assertIs(is_steady(TWO, ('b', 'c'), (), 0, kept=('b',)), True)
        self.assertIs(is_steady(TWO, ('a', 'b', 'c'), ('a', 'b'), 0, kept=('b',)), True)
        self.assertIs(is_steady(TWO, ('a', 'b', 'c'), ('a', 'c'), 0, kept=('b',)), False)

    def test_people_come_back(self):
        # Nobody else is there at first, but the others can come back.
        self.assertIs(is_steady(FOUR, ('a', 'b'), ('a', 'b'), 1), False)
        self.assertIs(is_calm_directly(FOUR, ('a', 'b'), ('a', 'b'), 1), True)

    def test_kept_people_who_are_absent_can_come_back(self):
        # As long as d is absent, each loss ends the duty or changes nothing.
        self.assertIs(is_steady(FOUR, ('a', 'b', 'c'), ('a', 'b'), 1, kept=('d',)), False)
        self.assertIs(is_steady(TWO, ('a', 'c'), ('a', 'c'), 0, kept=('b',)), False)
        self.assertIs(is_steady(TWO, ('a',), (), 0, kept=('b',)), False)

    def test_kept_people_cannot_be_lost_when_they_are_back(self):
        self.assertIs(is_steady(TWO, ('a',), (), 0), False)
        self.assertIs(is_steady(TWO, ('a',), (), 0, kept=('b', 'c')), True)
        self.assertIs(is_steady(TWO, ('a', 'c'), ('a', 'c'), 0, kept=('b', 'c')), True)
        self.assertIs(is_steady(FOUR, ('b', 'c'), (), 1, kept=('a', 'b')), False)
        self.assertIs(is_steady(FOUR, ('b', 'c'), (), 1, kept=('a', 'b', 'c', 'd')), True)

    def test_against_all_sets_of_states(self):
        answers = []
        for crews in all_crews(('a', 'b', 'c'), 3):
            if len(states_in(crews)) > 10:
                continue
            for kept in ((), people_in(crews)[:1], people_in(crews)[-1:]):
                for width in (0, 1, 2):
                    steady = steady_by_all_sets(crews, width, kept)
                    self.assertEqual(steady, steady_directly(crews, width, kept))
                    for present, crew in states_in(crews):
                        answers.append(is_steady(crews, present, crew, width, kept=kept))
                        self.assertIs(answers[-1], (present, crew) in steady)
        self.assertEqual(set(answers), {True, False})

    def test_against_a_direct_search(self):
        rnd = Random(41)
        for crews in [THREE, PAIRS] + [random_crews(rnd, 'abcd', 6) for _ in range(40)]:
            for width in (0, 1, 2):
                kept = tuple(rnd.sample(people_in(crews), rnd.choice((0, 0, 1))))
                steady = steady_directly(crews, width, kept)
                for present, crew in states_in(crews):
                    self.assertIs(is_steady(crews, present, crew, width, kept=kept), (present, crew) in steady)

    def test_steady_situations_are_calm(self):
        rnd = Random(42)
        for crews in [PAIRS] + [random_crews(rnd, 'abcd', 6) for _ in range(60)]:
            kept = tuple(rnd.sample(people_in(crews), rnd.choice((0, 1))))
            for present, crew in states_in(crews):
                if crew and is_steady(crews, present, crew, 1, kept=kept):
                    self.assertIs(is_calm_directly(crews, present, crew, 1, kept), True)

    def test_a_greater_width_and_more_kept_people_keep_steady(self):
        rnd = Random(43)
        for crews in [PAIRS] + [random_crews(rnd, 'abcd', 6) for _ in range(40)]:
            for present, crew in rnd.sample(states_in(crews), min(8, len(states_in(crews)))):
                steady = [is_steady(crews, present, crew, width) for width in range(4)]
                self.assertEqual(steady, sorted(steady))
                kept = tuple(sorted(rnd.sample(people_in(crews), rnd.randint(0, len(people_in(crews))))))
                self.assertGreaterEqual(is_steady(crews, present, crew, 1, kept=kept), steady[1])

    def test_states_of_good_crews_are_steady_for_width_one(self):
        for crews in all_crews(('a', 'b', 'c', 'd'), 4):
            if is_good(crews):
                for present, crew in states_in(crews):
                    self.assertIs(is_steady(crews, present, crew, 1), True)

    def test_six_people(self):
        crews = tuple((one, two) for one in 'abc' for two in 'def')
        self.assertIs(is_steady(crews, tuple('abcdef'), ('a', 'd'), 1), True)
        self.assertIs(is_steady(crews, tuple('abcdef'), ('a', 'd'), 0), False)

    def test_arguments(self):
        self.assertIs(is_steady(crews=TWO, present=('a',), crew=(), width=1, kept=()), True)
        self.by_name_only(is_steady, TWO, ('a',), (), 1, ())

    def test_unknown_people(self):
        self.unknown('x', is_steady, PAIRS, ('m', 'x', 'y'), ('w',), 1, kept=('z',))
        self.unknown('w', is_steady, PAIRS, FIVE, ('m', 'w'), 1, kept=('z',))
        self.unknown('y', is_steady, PAIRS, (), (), 1, kept=('m', 'y', 'z'))


if __name__ == '__main__':
    unittest.main()
