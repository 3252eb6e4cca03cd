import unittest
from random import Random

from crewbook.calmchecker import lets_calm
from crewbook.calmpapers import calm_paper
from crewbook.errors import InvalidPaper
from tests.samples import (FIVE, FOUR, ODD, PAIRS, SIXTY, TWO, CrewTest, changed, is_calm_directly, left_in, nested, people_in,
                           random_crews, with_part)

ABC = ('a', 'b', 'c')
AB, AC = TWO
# A calm paper of ABC, AB for the crews TWO and width 1.
ROWS = ((AB, AB, (None, None)), (ABC, AB, (None, AC, AB)), (AC, AC, (None, None)))
CALM = ('calm', ROWS)
STUCK = ('not', ((('m', 'p', 'q', 'r'), ('m', 'p'), 'm'),))
# Here a person who is not in the crew is lost first.
LATER = ('not', ((FIVE, ('m', 'p'), 'n'), (('m', 'p', 'q', 'r'), ('m', 'p'), 'm')))


class CalmTest(CrewTest):
    def refuse_two(self, word, at, thing, present=ABC, crew=AB, width=1, **named):
        self.refuse(lets_calm, word, at, TWO, present, crew, width, thing, **named)

    def refuse_pairs(self, word, at, rows, present=('m', 'p', 'q', 'r'), crew=('m', 'p'), **named):
        self.refuse(lets_calm, word, at, PAIRS, present, crew, 1, ('not', rows), **named)


class TestShape(CalmTest):
    def test_odd_values(self):
        row = ROWS[0]
        for thing in ODD + ((), nested(30), 'calm', 'not', ('calm',), ('not',), CALM + ((),), list(CALM), ('calm', None),
                            ('calm', list(ROWS)), ('fine', ROWS), (True, ROWS), (ROWS, 'calm'), ('calm', 'ab'),
                            ('calm', (row, None)), ('calm', (row, list(row))), ('calm', (row, row[:2])),
                            ('calm', (row, row + ((),))), ('calm', row), ('calm', STUCK[1]), ('not', ROWS),
                            ('calm', ROWS + STUCK[1]), ('not', STUCK[1] + ROWS), ('calm', ((AB, AB, None),))):
            self.refuse_two('shape', -1, thing)

    def test_parts_of_rows(self):
        for odd in (None, 1, True, '', 'a', ['a'], ('a', 1), (('a',),), ('A',), (None,)):
            for k in (0, 1):
                self.refuse_two('shape', -1, with_part(CALM, (1, 2, k), odd))
                self.refuse_pairs('shape', -1, with_part(STUCK[1], (0, k), odd))
        for odd in (None, 1, True, 'a', [None, None], (None, 'a'), (None, 1), (None, True), (None, ['a']), (None, ('A',)),
                    (None, (None,)), (AB, (AB,))):
            self.refuse_two('shape', -1, with_part(CALM, (1, 2, 2), odd))
        for odd in (None, 1, True, '', 'A', ('m',), ['m'], 'abcdefghi', -SIXTY):
            self.refuse_pairs('shape', -1, with_part(STUCK[1], (0, 2), odd))

    def test_right_shapes(self):
        self.refuse_two('start', -1, ('calm', ()))
        self.refuse_two('start', -1, ('not', ()))
        self.refuse_two('situation', 0, ('calm', (((), (), ()),)))
        self.refuse_two('situation', 0, ('calm', ((('y', 'x'), ('zz',), (None, (), ('b', 'a'))),)))
        self.refuse_two('situation', 0, ('not', (((), (), 'zz'),)))


class TestSituations(CalmTest):
    def test_situation(self):
        for people, crew in (((), ()), (AB, ()), (AB, ('a',)), (AB, AC), (('b', 'a'), AB), (('a', 'a', 'b'), AB),
                             (('a', 'b', 'd'), AB), (AB, ('b', 'a')), (('b', 'c'), ('b', 'c')), (('b', 'c'), ())):
            for k in range(3):
                self.refuse_two('situation', k, with_part(CALM, (1, k), (people, crew, ())))
            self.refuse(lets_calm, 'situation', 0, TWO, ABC, AB, 1, ('not', ((people, crew, 'a'),)))

    def test_rise(self):
        self.refuse_two('rise', 1, ('calm', (ROWS[0], ROWS[0], ROWS[1], ROWS[2])))
        self.refuse_two('rise', 3, ('calm', ROWS + (ROWS[2],)))
        self.refuse_two('rise', 1, ('calm', ROWS[::-1]))
        self.refuse_two('rise', 2, ('calm', (ROWS[0], ROWS[2], ROWS[1])))
        self.refuse_two('rise', 1, ('calm', ((ABC, AC, ()), (ABC, AB, ()))))

    def test_rows_with_equal_situations_do_not_rise(self):
        self.refuse_two('rise', 1, ('calm', ((ABC, AB, ()), (ABC, AB, (None,)))))
        self.refuse_pairs('rise', 1, (STUCK[1][0], STUCK[1][0][:2] + ('q',)))

    def test_situation_and_rise_row_by_row(self):
        self.refuse_two('rise', 1, ('calm', (ROWS[0], ROWS[0], ((), (), ()))))
        self.refuse_two('situation', 1, ('calm', (ROWS[2], (AB, AC, ()), ROWS[0])))

    def test_start(self):
        self.refuse_two('start', -1, ('calm', ROWS[:1] + ROWS[2:]))
        self.refuse_two('start', -1, CALM, crew=AC)
        self.refuse_two('start', -1, ('not', ((ABC, AC, 'z'),)))
        self.refuse_two('start', -1, ('calm', ((ABC, AC, ()),)))
        self.assertIs(lets_calm(TWO, AB, AB, 1, CALM), True)


class TestCalm(CalmTest):
    def test_accepted(self):
        self.assertIs(lets_calm(TWO, ABC, AB, 1, CALM), True)
        self.assertIs(lets_calm(TWO, ABC, AB, SIXTY, CALM), True)
        self.assertIs(lets_calm(crews=TWO, present=ABC, crew=AB, width=1, thing=CALM, kept=()), True)
        self.by_name_only(lets_calm, TWO, ABC, AB, 1, CALM, ())

    def test_rows_of_other_situations_may_stand_there(self):
        more = (ROWS[0], ROWS[1], (ABC, AC, (None, AC, AB)), ROWS[2])
        self.assertIs(lets_calm(TWO, AC, AC, 1, ('calm', more)), True)

    def test_many(self):
        for followers in ((), (None,), (None, AC), (None, AC, AB, None), (None, AC, AB, AB)):
            self.refuse_two('many', 1, with_part(CALM, (1, 1, 2), followers))
        self.refuse_two('many', 0, with_part(CALM, (1, 0, 2), (None,)))
        self.refuse_two('many', 1, CALM, kept=('c',))

    def test_follower(self):
        for i, wrong in ((0, AB), (0, AC), (0, ()), (1, None), (1, AB), (1, ()), (1, ('c', 'a')), (1, ('z',)), (2, None),
                         (2, AC), (2, ())):
            self.refuse_two('follower', (1, i), with_part(CALM, (1, 1, 2, i), wrong))
        self.refuse_two('follower', (1, 0), with_part(CALM, (1, 1, 2), (AB, None, None)))
        self.refuse_two('follower', (0, 1), with_part(CALM, (1, 0, 2), (None, AB)))

    def test_a_follower_without_a_row(self):
        self.refuse_two('follower', (0, 2), ('calm', ROWS[1:]))
        self.refuse_two('follower', (1, 1), ('calm', ROWS[:2]))

    def test_the_width(self):
        self.refuse_two('follower', (1, 1), CALM, width=0)
        crews = (('a', 'b'), ('a', 'c', 'd'))
        people = ('a', 'b', 'c', 'd')
        paper = calm_paper(crews, people, ('a', 'b'), 2)
        self.assertIs(lets_calm(crews, people, ('a', 'b'), 2, paper), True)
        with self.assertRaises(InvalidPaper):
            lets_calm(crews, people, ('a', 'b'), 1, paper)

    def test_many_and_follower_row_by_row(self):
        rows = (ROWS[0], (ABC, AB, (None, AC, AC)), (AC, AC, ()))
        self.refuse_two('follower', (1, 2), ('calm', rows))
        self.refuse_two('many', 1, ('calm', (ROWS[0], (ABC, AB, (AB, AC)), (AC, AC, (AC, None)))))
        self.refuse_two('follower', (0, 0), ('calm', ((AB, AB, (AB, AB)), (ABC, AB, ()), ROWS[2])))

    def test_kept(self):
        rows = ((ABC, AB, (None, AB)), (AB, AB, (None,)))
        self.refuse_two('rise', 1, ('calm', rows), kept=('b',))
        self.assertIs(lets_calm(TWO, ABC, AB, 0, ('calm', rows[::-1]), kept=('b',)), True)
        self.assertIs(lets_calm(TWO, ABC, AB, 0, ('calm', ((ABC, AB, ()),)), kept=ABC), True)
        self.refuse_two('many', 0, ('calm', ((ABC, AB, (None, AC, AB)),)), kept=ABC)

    def test_kept_people_who_are_absent_have_no_effect(self):
        crews = TWO + (('d',),)
        self.assertIs(lets_calm(crews, ABC, AB, 1, CALM, kept=('d',)), True)


class TestNot(CalmTest):
    def test_example_of_the_document(self):
        self.assertIs(lets_calm(PAIRS, ('m', 'p', 'q', 'r'), ('m', 'p'), 1, STUCK), False)

    def test_a_way_to_a_stuck_loss(self):
        self.assertIs(lets_calm(PAIRS, FIVE, ('m', 'p'), 1, LATER), False)
        # In FIVE itself the loss of m is stuck, too.
        self.assertIs(lets_calm(PAIRS, FIVE, ('m', 'p'), 1, ('not', ((FIVE, ('m', 'p'), 'm'),))), False)

    def test_all_answers_need_a_row(self):
        crews = (('a', 'd'), ('b', 'd', 'e'), ('c', 'e'))
        start, people = ('a', 'b', 'c', 'd', 'e'), ('a', 'c', 'd', 'e')
        rows = ((start, ('b', 'd', 'e'), 'b'), (people, ('a', 'd'), 'd'), (people, ('c', 'e'), 'e'))
        self.assertIs(lets_calm(crews, start, ('b', 'd', 'e'), 1, ('not', rows)), False)
        for k in (1, 2):
            self.refuse(lets_calm, 'next', 0, crews, start, ('b', 'd', 'e'), 1, ('not', rows[:k] + rows[k + 1:]))

    def test_lost(self):
        for lost in ('n', 'z', 'a'):
            self.refuse_pairs('lost', 0, ((('m', 'p', 'q', 'r'), ('m', 'p'), lost),))
        self.refuse_pairs('lost', 0, STUCK[1], kept=('m',))
        # The loss ends the duty.
        self.refuse_pairs('lost', 0, ((('m', 'p'), ('m', 'p'), 'm'),), present=('m', 'p'))
        self.refuse_pairs('lost', 0, ((('m', 'p', 'q'), ('m', 'p'), 'm'),), present=('m', 'p', 'q'))

    def test_next(self):
        self.refuse_pairs('next', 0, ((('m', 'p', 'q', 'r'), ('m', 'p'), 'q'),))
        self.refuse_pairs('next', 0, LATER[1][:1], present=FIVE)
        self.refuse_pairs('next', 0, ((('m', 'p', 'q', 'r'), ('m', 'p'), 'p'),))

    def test_lost_and_next_row_by_row(self):
        first, second = LATER[1]
        self.refuse_pairs('next', 0, (first[:2] + ('q',), second[:2] + ('z',)), present=FIVE)
        self.refuse_pairs('lost', 0, (first[:2] + ('z',), second[:2] + ('q',)), present=FIVE)
        self.refuse_pairs('lost', 1, (first, second[:2] + ('z',)), present=FIVE)
        self.refuse_pairs('next', 1, (first, second[:2] + ('p',)), present=FIVE)

    def test_the_width(self):
        self.refuse(lets_calm, 'next', 0, PAIRS, ('m', 'p', 'q', 'r'), ('m', 'p'), 2, STUCK)
        self.assertIs(lets_calm(TWO, ABC, AB, 0, ('not', ((ABC, AB, 'b'),))), False)
        self.refuse_two('next', 0, ('not', ((ABC, AB, 'b'),)))

    def test_kept_people_who_are_absent_have_no_effect(self):
        self.assertIs(lets_calm(PAIRS, ('m', 'p', 'q', 'r'), ('m', 'p'), 1, STUCK, kept=('n', 'q')), False)


class TestAll(CalmTest):
    def test_unknown_people_come_first(self):
        for thing in (None, CALM):
            self.unknown('x', lets_calm, TWO, ('a', 'x', 'y'), ('w',), 1, thing, kept=('z',))
            self.unknown('w', lets_calm, TWO, ABC, ('a', 'w'), 1, thing, kept=('z',))
            self.unknown('y', lets_calm, TWO, ABC, AB, 1, thing, kept=('a', 'y', 'z'))

    def test_changed_papers_that_are_accepted_are_true(self):
        rnd = Random(33)
        results = []
        for _ in range(4000):
            crews = rnd.choice((TWO, FOUR, PAIRS, random_crews(rnd, 'abcd', 5)))
            present = people_in(crews)
            crew = rnd.choice(left_in(crews, present))
            width = rnd.choice((0, 1, 1, 2))
            kept = tuple(rnd.sample(present, rnd.choice((0, 0, 1))))
            thing = changed(rnd, calm_paper(crews, present, crew, rnd.choice((width, 0, 2)), kept=kept))
            try:
                result = lets_calm(crews, present, crew, width, thing, kept=kept)
                self.assertIs(result, is_calm_directly(crews, present, crew, width, kept), thing)
                results.append('accepted')
            except InvalidPaper as error:
                results.append(error.word)
        self.assertEqual(set(results), {'accepted', 'shape', 'situation', 'rise', 'start', 'many', 'follower', 'lost', 'next'})


if __name__ == '__main__':
    unittest.main()
