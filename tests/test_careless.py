import unittest
from random import Random

from crewbook.calm import is_calm
from crewbook.careless import is_careless
from crewbook.losses import answers, loss_word
from tests.samples import (ALL, BIG, DEEP, FIVE, FOUR, PAIRS, SIXTY, TWO, WIDE, CrewTest, all_crews, crews_after,
                           is_careless_directly, people_in, random_crews, remembered, situations_in, subsets, without_one)

ABC = ('a', 'b', 'c')
AB, AC = TWO
MORE = tuple(sorted(WIDE + (('a', 'p', 'r', 'x', 'y'),)))


class TestIsCareless(CrewTest):
    def test_examples_of_the_document(self):
        self.assertEqual([is_careless(WIDE, ALL, BIG, 1), is_careless(WIDE, ALL, BIG, 2)], [True, False])
        self.assertEqual([is_careless(WIDE, ALL, BIG, width) for width in range(9)], [False, True, False] + [True] * 6)
        self.assertIs(is_careless(MORE, ALL, BIG, 1), False)
        self.assertIs(is_careless(PAIRS, FIVE, ('m', 'n'), 1), False)

    def test_widths(self):
        self.assertEqual([is_careless(TWO, ABC, AB, width) for width in (0, 1, 8, SIXTY)], [False, True, True, True])

    def test_nobody_can_be_lost(self):
        for present, crew in situations_in(FOUR):
            self.assertIs(is_careless(FOUR, present, crew, 0, kept=present), True)
            self.assertIs(is_careless(FOUR, present, crew, 0, kept=people_in(FOUR)), True)

    def test_a_loss_that_ends_the_duty(self):
        self.assertIs(is_careless((('a',),), ('a',), ('a',), 0), True)
        self.assertIs(is_careless(FOUR, ('a', 'b', 'c'), FOUR[0], 0), True)

    def test_a_stuck_loss(self):
        self.assertIs(is_careless(FOUR, people_in(FOUR), FOUR[0], 1), False)
        self.assertIs(is_careless(FOUR, people_in(FOUR), FOUR[0], 2), True)
        self.assertIs(is_careless(PAIRS, ('m', 'p', 'q', 'r'), ('m', 'p'), 1), False)

    def test_one_answer_that_is_not_careless_is_enough(self):
        people = ('m', 'p', 'q', 'r')
        self.assertEqual(answers(PAIRS, FIVE, ('m', 'n'), 'n', 1), (('m', 'p'), ('m', 'q')))
        self.assertEqual([is_careless(PAIRS, people, crew, 1) for crew in (('m', 'p'), ('m', 'q'))], [False, True])
        self.assertEqual([is_careless(PAIRS, FIVE, ('m', 'n'), 1, kept=kept) for kept in ((), ('m',), ('n',), ('p',))],
                         [False, True, True, False])
        self.assertIs(is_calm(PAIRS, FIVE, ('m', 'n'), 1), True)

    def test_kept_people_who_are_absent_have_no_effect(self):
        crews = tuple(sorted(PAIRS + (('a', 'b'),)))
        for crew in PAIRS:
            for width in (1, 2):
                self.assertIs(is_careless(crews, FIVE, crew, width, kept=('a', 'b')),
                              is_careless(crews, FIVE, crew, width))

    def test_against_a_direct_search(self):
        found = []
        for crews in all_crews(ABC, 3):
            for present, crew in situations_in(crews):
                for kept in subsets(people_in(crews)):
                    for width in (0, 1, 2):
                        found.append(is_careless(crews, present, crew, width, kept=kept))
                        self.assertIs(found[-1], is_careless_directly(crews, present, crew, width, kept))
        self.assertEqual(set(found), {True, False})

    def test_against_a_direct_search_in_larger_crews(self):
        rnd = Random(61)
        found = []
        for _ in range(60):
            crews = random_crews(rnd, 'abcde', 8)
            width, kept = rnd.choice((0, 1, 1, 2)), tuple(rnd.sample(people_in(crews), rnd.choice((0, 0, 1, 2))))
            for present, crew in rnd.sample(situations_in(crews), min(12, len(situations_in(crews)))):
                found.append(is_careless(crews, present, crew, width, kept=kept))
                self.assertIs(found[-1], is_careless_directly(crews, present, crew, width, kept))
        self.assertEqual(set(found), {True, False})

    def test_wide_and_pairs_for_all_widths(self):
        for crews, present in ((WIDE, ALL), (MORE, ALL), (PAIRS, FIVE), (DEEP, people_in(DEEP))):
            for width in range(9):
                for kept in ((), present[:1], present[2:4], present):
                    _, careless = remembered(crews, width, kept)
                    for crew in crews:
                        self.assertIs(is_careless(crews, present, crew, width, kept=kept), careless(present, crew))

    def test_careless_situations_lead_to_careless_ones_only(self):
        rnd = Random(62)
        number = 0
        for _ in range(200):
            crews = rnd.choice((WIDE, PAIRS, random_crews(rnd, 'abcdef', 9)))
            present, crew = people_in(crews), rnd.choice(crews)
            width = rnd.choice((1, 2, 3))
            if is_careless(crews, present, crew, width):
                self.play(rnd, crews, present, crew, width)
                number += 1
        self.assertGreater(number, 50)

    def play(self, rnd, crews, present, crew, width):
        while crews_after(crews, present, crew, present[0], width) is not None:
            lost = rnd.choice(present)
            word = loss_word(crews, present, crew, lost, width)
            if word == 'over':
                return
            if word != 'stays':
                crew = rnd.choice(answers(crews, present, crew, lost, width))
            present = without_one(present, lost)
            self.assertIs(is_careless(crews, present, crew, width), True)
            self.assertIs(is_calm(crews, present, crew, width), True)

    def test_arguments(self):
        self.assertIs(is_careless(crews=TWO, present=ABC, crew=AB, width=1, kept=()), True)
        self.by_name_only(is_careless, TWO, ABC, AB, 1, ())

    def test_unknown_people(self):
        self.unknown('x', is_careless, PAIRS, ('m', 'x', 'y'), ('w',), 1, kept=('z',))
        self.unknown('w', is_careless, PAIRS, FIVE, ('m', 'w'), 1, kept=('z',))
        self.unknown('y', is_careless, PAIRS, FIVE, ('m', 'n'), 1, kept=('m', 'y', 'z'))


if __name__ == '__main__':
    unittest.main()
