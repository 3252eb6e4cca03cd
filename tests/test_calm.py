import unittest
from random import Random

from crewbook.calm import calm_crews, is_calm, safe_answers
from crewbook.losses import answers, crews_left, loss_word
from tests.samples import (ALL, BIG, DEEP, FIVE, FOUR, PAIRS, SIXTY, TWO, WIDE, CrewTest, all_crews, is_calm_directly, left_in,
                           people_in, random_crews, remembered, situations_in, subsets, without_one)

ABC = ('a', 'b', 'c')
AB, AC = TWO
MORE = tuple(sorted(WIDE + (('a', 'p', 'r', 'x', 'y'),)))


class TestIsCalm(CrewTest):
    def test_examples_of_the_document(self):
        self.assertIs(is_calm(WIDE, ALL, BIG, 1), True)
        self.assertIs(is_calm(MORE, ALL, BIG, 1), True)
        self.assertIs(is_calm(PAIRS, FIVE, ('m', 'n'), 1), True)
        self.assertIs(is_calm(PAIRS, FIVE, ('m', 'p'), 1), False)

    def test_widths(self):
        self.assertEqual([is_calm(TWO, ABC, AB, width) for width in (0, 1, 8, SIXTY)], [False, True, True, True])
        self.assertEqual([is_calm(FOUR, people_in(FOUR), FOUR[0], width) for width in (0, 1, 2)], [False, False, True])

    def test_nobody_can_be_lost(self):
        for present, crew in situations_in(FOUR):
            self.assertIs(is_calm(FOUR, present, crew, 0, kept=present), True)
            self.assertIs(is_calm(FOUR, present, crew, 0, kept=people_in(FOUR)), True)

    def test_a_loss_that_ends_the_duty(self):
        self.assertIs(is_calm((('a',),), ('a',), ('a',), 0), True)
        self.assertIs(is_calm(FOUR, ('a', 'b', 'c'), FOUR[0], 0), True)

    def test_kept(self):
        self.assertEqual([is_calm(TWO, ABC, AB, 0, kept=kept) for kept in ((), ('a',), ('b',), ('c',), ('a', 'b'))],
                         [False, False, True, False, True])

    def test_kept_people_who_are_absent_have_no_effect(self):
        for kept in (('b',), ('b', 'd')):
            self.assertIs(is_calm(FOUR + (('a', 'c'),), ('a', 'c'), ('a', 'c'), 0, kept=kept), True)
        crews = tuple(sorted(PAIRS + (('a', 'b'),)))
        for crew in PAIRS:
            self.assertIs(is_calm(crews, FIVE, crew, 1, kept=('a', 'b')), is_calm(crews, FIVE, crew, 1))

    def test_against_a_direct_search(self):
        found = []
        for crews in all_crews(ABC, 3):
            for present, crew in situations_in(crews):
                for kept in subsets(people_in(crews)):
                    for width in (0, 1, 2):
                        found.append(is_calm(crews, present, crew, width, kept=kept))
                        self.assertIs(found[-1], is_calm_directly(crews, present, crew, width, kept))
        self.assertEqual(set(found), {True, False})

    def test_wide_and_pairs_for_all_widths(self):
        for crews, present in ((WIDE, ALL), (MORE, ALL), (PAIRS, FIVE), (DEEP, people_in(DEEP))):
            for width in range(9):
                for kept in ((), present[:1], present[2:4], present):
                    calm, _ = remembered(crews, width, kept)
                    expected = tuple(crew for crew in crews if calm(present, crew))
                    self.assertEqual(calm_crews(crews, present, width, kept=kept), expected)
                    for crew in crews:
                        self.assertIs(is_calm(crews, present, crew, width, kept=kept), crew in expected)

    def test_arguments(self):
        self.assertIs(is_calm(crews=TWO, present=ABC, crew=AB, width=1, kept=()), True)
        self.by_name_only(is_calm, TWO, ABC, AB, 1, ())

    def test_unknown_people(self):
        self.unknown('x', is_calm, PAIRS, ('m', 'x', 'y'), ('w',), 1, kept=('z',))
        self.unknown('w', is_calm, PAIRS, FIVE, ('m', 'w'), 1, kept=('z',))
        self.unknown('y', is_calm, PAIRS, FIVE, ('m', 'n'), 1, kept=('m', 'y', 'z'))


class TestCalmCrews(CrewTest):
    def test_example_of_the_document(self):
        self.assertEqual(calm_crews(PAIRS, FIVE, 1), (('m', 'n'), ('m', 'q'), ('n', 'q')))

    def test_no_crew(self):
        for present in ((), ('a',), ('b', 'c')):
            self.assertEqual(calm_crews(TWO, present, 1), ())
            self.assertEqual(calm_crews(TWO, present, 1, kept=present), ())
        self.assertEqual(calm_crews(FOUR, people_in(FOUR), 1), ())
        self.assertEqual(calm_crews(FOUR, people_in(FOUR), 1, kept=people_in(FOUR)), FOUR)

    def test_against_is_calm(self):
        rnd = Random(51)
        for crews in [PAIRS, TWO, FOUR] + [random_crews(rnd, 'abcde', 7) for _ in range(30)]:
            for present in subsets(people_in(crews)):
                width, kept = rnd.choice((0, 1, 2)), tuple(rnd.sample(people_in(crews), rnd.choice((0, 0, 1))))
                found = calm_crews(crews, present, width, kept=kept)
                self.assertIs(type(found), tuple)
                self.assertEqual(found, tuple(
                    crew for crew in left_in(crews, present) if is_calm_directly(crews, present, crew, width, kept)))

    def test_arguments(self):
        self.assertEqual(calm_crews(crews=TWO, present=ABC, width=1, kept=()), TWO)
        self.by_name_only(calm_crews, TWO, ABC, 1, ())

    def test_unknown_people(self):
        self.unknown('x', calm_crews, PAIRS, ('m', 'x', 'y'), 1, kept=('w',))
        self.unknown('y', calm_crews, PAIRS, FIVE, 1, kept=('m', 'y', 'z'))


class TestSafeAnswers(CrewTest):
    def test_answers_and_those_that_are_safe(self):
        self.assertEqual(answers(PAIRS, FIVE, ('m', 'n'), 'n', 1), (('m', 'p'), ('m', 'q')))
        self.assertEqual(safe_answers(PAIRS, FIVE, ('m', 'n'), 'n', 1), (('m', 'q'),))
        self.assertEqual(safe_answers(PAIRS, FIVE, ('m', 'n'), 'n', 2), (('m', 'p'), ('m', 'q'), ('q', 'r')))

    def test_no_answer(self):
        self.assertEqual(safe_answers(PAIRS, FIVE, ('m', 'n'), 'p', 1), ())
        self.assertEqual(safe_answers(PAIRS, ('m', 'n'), ('m', 'n'), 'n', 1), ())
        self.assertEqual(safe_answers(PAIRS, ('m', 'p', 'q', 'r'), ('m', 'p'), 'm', 1), ())
        self.assertEqual(safe_answers((('a',),), ('a',), ('a',), 'a', 1), ())

    def test_the_lost_person_may_be_kept(self):
        self.assertEqual(safe_answers(PAIRS, FIVE, ('m', 'n'), 'n', 1, kept=('n',)), (('m', 'q'),))
        self.assertEqual(safe_answers(PAIRS, FIVE, ('m', 'n'), 'n', 1, kept=('m', 'n')), (('m', 'p'), ('m', 'q')))

    def test_against_a_direct_search(self):
        rnd = Random(52)
        sizes = []
        for crews in [PAIRS] + all_crews(ABC, 3)[::2] + [random_crews(rnd, 'abcde', 7) for _ in range(30)]:
            for present, crew in situations_in(crews):
                width, kept = rnd.choice((0, 1, 2)), tuple(rnd.sample(people_in(crews), rnd.choice((0, 0, 1))))
                for lost in present:
                    found = safe_answers(crews, present, crew, lost, width, kept=kept)
                    rest = without_one(present, lost)
                    self.assertIs(type(found), tuple)
                    self.assertEqual(found, tuple(
                        other for other in answers(crews, present, crew, lost, width)
                        if is_calm_directly(crews, rest, other, width, kept)))
                    sizes.append(len(found))
        self.assertLessEqual({0, 1, 2}, set(sizes))

    def test_calm_by_losses_and_safe_answers(self):
        rnd = Random(53)
        for crews in [PAIRS, TWO, FOUR, DEEP] + [random_crews(rnd, 'abcd', 6) for _ in range(40)]:
            for present, crew in situations_in(crews):
                width, kept = rnd.choice((0, 1, 2)), tuple(rnd.sample(people_in(crews), rnd.choice((0, 0, 1))))
                fine = all(self.is_safe_loss(crews, present, crew, lost, width, kept)
                           for lost in present if lost not in kept)
                self.assertIs(is_calm(crews, present, crew, width, kept=kept), fine)

    def is_safe_loss(self, crews, present, crew, lost, width, kept):
        word = loss_word(crews, present, crew, lost, width)
        if word == 'stays':
            return is_calm(crews, without_one(present, lost), crew, width, kept=kept)
        return word == 'over' or word == 'open' and safe_answers(crews, present, crew, lost, width, kept=kept) != ()

    def test_arguments(self):
        self.assertEqual(safe_answers(crews=TWO, present=ABC, crew=AB, lost='b', width=1, kept=()), (AC,))
        self.by_name_only(safe_answers, TWO, ABC, AB, 'b', 1, ())

    def test_unknown_people(self):
        self.unknown('x', safe_answers, PAIRS, ('m', 'x', 'y'), ('w',), 'v', 1, kept=('u',))
        self.unknown('w', safe_answers, PAIRS, FIVE, ('m', 'w'), 'v', 1, kept=('u',))
        self.unknown('v', safe_answers, PAIRS, FIVE, ('m', 'n'), 'v', 1, kept=('u',))
        self.unknown('u', safe_answers, PAIRS, FIVE, ('m', 'n'), 'n', 1, kept=('m', 'u', 'x'))
        self.unknown('u', safe_answers, PAIRS, FIVE, ('m', 'n'), 'p', 1, kept=('u',))


class TestAfterCalm(CrewTest):
    def test_a_calm_situation_stays_calm_with_safe_answers(self):
        rnd = Random(54)
        for _ in range(200):
            crews = rnd.choice((WIDE, PAIRS, TWO, random_crews(rnd, 'abcdef', 9)))
            present, width = people_in(crews), rnd.choice((1, 2))
            for crew in calm_crews(crews, present, width)[:2]:
                self.play(rnd, crews, present, crew, width)

    def play(self, rnd, crews, present, crew, width):
        while present:
            self.assertIs(is_calm(crews, present, crew, width), True)
            lost = rnd.choice(present)
            word = loss_word(crews, present, crew, lost, width)
            self.assertNotEqual(word, 'stuck')
            if word == 'over':
                self.assertEqual(crews_left(crews, without_one(present, lost)), ())
                return
            if word == 'open':
                crew = rnd.choice(safe_answers(crews, present, crew, lost, width))
            present = without_one(present, lost)


if __name__ == '__main__':
    unittest.main()
