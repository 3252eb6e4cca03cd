import unittest
from random import Random

from crewbook.errors import InvalidPaper
from crewbook.steadychecker import lets_steady
from crewbook.steadypapers import steady_paper
from tests.samples import (FIVE, FOUR, ODD, PAIRS, SIXTY, TWO, CrewTest, changed, nested, people_in, random_crews, states_in,
                           steady_directly, with_part)

ABC = ('a', 'b', 'c')
AB, AC = TWO
# All states of the crews TWO, which are steady for width 1.
STATES = (((), ()), (('a',), ()), (AB, AB), (ABC, AB), (ABC, AC), (AC, AC), (('b',), ()), (('b', 'c'), ()), (('c',), ()))
STEADY = ('steady', STATES)
FIRST = (ABC, AB, 0, ('lost', 'b'))
# From AB the return of c leads to ABC, where the loss of b is stuck for width 0.
UNSTEADY = ('unsteady', ((AB, AB, 1, ('back', 'c')), FIRST))


class SteadyTest(CrewTest):
    def refuse_two(self, word, at, thing, present=ABC, crew=AB, width=1, **named):
        self.refuse(lets_steady, word, at, TWO, present, crew, width, thing, **named)

    def refuse_zero(self, word, at, thing, present=ABC, crew=AB, **named):
        self.refuse_two(word, at, thing, present, crew, 0, **named)


class TestShape(SteadyTest):
    def test_odd_values(self):
        for thing in ODD + ((), nested(30), 'steady', ('steady',), ('unsteady',), STEADY + ((),), list(STEADY), STATES,
                            ('steady', None), ('steady', list(STATES)), ('fine', STATES), (True, STATES), ('steady', 'ab'),
                            ('steady', STATES + (None,)), ('steady', (list(STATES[0]),)), ('steady', (AB,)),
                            ('steady', ((AB, AB, ()),)), ('steady', UNSTEADY[1]), ('unsteady', STATES),
                            ('steady', STATES + (FIRST,)), ('unsteady', (FIRST, STATES[0])), ('unsteady', FIRST),
                            ('unsteady', [FIRST]), ('unsteady', None), ('unsteady', (list(FIRST),)), ('unsteady', (FIRST[:3],)), ('unsteady', (FIRST + (0,),))):
            self.refuse_two('shape', -1, thing)

    def test_parts_of_states_and_rows(self):
        for odd in (None, 1, True, '', 'a', ['a'], ('a', 1), (('a',),), ('A',), (None,)):
            for k in (0, 1):
                self.refuse_two('shape', -1, with_part(STEADY, (1, 3, k), odd))
                self.refuse_zero('shape', -1, with_part(UNSTEADY, (1, 1, k), odd))
        for odd in (None, True, False, -1, '0', (0,), -SIXTY, ()):
            self.refuse_zero('shape', -1, with_part(UNSTEADY, (1, 1, 2), odd))
        for odd in (None, 0, 'lost', ('lost',), ('lost', 'b', 'b'), ['lost', 'b'], ('gone', 'b'), (True, 'b'), (0, 'b'),
                    ('lost', 'B'), ('lost', ''), ('lost', None), ('lost', ('b',)), ('b', 'lost'), (('lost',), 'b')):
            self.refuse_zero('shape', -1, with_part(UNSTEADY, (1, 1, 3), odd))

    def test_right_shapes(self):
        self.refuse_two('start', -1, ('steady', ()))
        self.refuse_two('start', -1, ('unsteady', ()))
        self.refuse_two('state', 0, ('steady', ((('b', 'a'), ('zz',)),)))
        self.refuse_two('state', 0, ('unsteady', ((('zz',), (), SIXTY, ('back', 'zz')),)))


class TestStates(SteadyTest):
    def test_state(self):
        for state in ((AB, ()), (ABC, ()), (AB, AC), (AB, ('a',)), (AB, ('b', 'a')), (('b', 'a'), AB), (('a', 'd'), ()),
                      (('b', 'b'), ()), (('c', 'b'), ()), (('b', 'c'), ('b', 'c')), ((), ('a',)), (('a',), ('a',))):
            for k in (0, 4, 8):
                self.refuse_two('state', k, with_part(STEADY, (1, k), state))
            self.refuse_zero('state', 0, ('unsteady', (state + (0, ('lost', 'a')),)))

    def test_rise(self):
        for k in range(8):
            order = STATES[:k] + (STATES[k + 1], STATES[k]) + STATES[k + 2:]
            self.refuse_two('rise', k + 1, ('steady', order))
            self.refuse_two('rise', k + 1, ('steady', STATES[:k + 1] + STATES[k:]))
        self.refuse_zero('rise', 1, ('unsteady', UNSTEADY[1][::-1]))

    def test_rows_of_equal_states_do_not_rise(self):
        self.refuse_zero('rise', 1, ('unsteady', (FIRST, (ABC, AB, 1, ('lost', 'b')))))
        self.refuse_zero('rise', 1, ('unsteady', (FIRST, (ABC, AB, 0, ('lost', 'c')))))

    def test_state_and_rise_row_by_row(self):
        self.refuse_two('rise', 1, ('steady', (STATES[0], STATES[0], (AB, ()))))
        self.refuse_two('state', 1, ('steady', (STATES[1], (AB, ()), STATES[0])))

    def test_start(self):
        for k in range(9):
            self.refuse_two('start', -1, ('steady', STATES[:k] + STATES[k + 1:]), *STATES[k])
        self.refuse_zero('start', -1, UNSTEADY, ABC, AC)
        self.refuse_zero('start', -1, UNSTEADY, (), ())


class TestSteady(SteadyTest):
    def test_accepted(self):
        for present, crew in STATES:
            self.assertIs(lets_steady(TWO, present, crew, 1, STEADY), True)
        self.assertIs(lets_steady(crews=TWO, present=ABC, crew=AB, width=SIXTY, thing=STEADY, kept=()), True)
        self.by_name_only(lets_steady, TWO, ABC, AB, 1, STEADY, ())

    def test_event(self):
        self.refuse_two('event', (0, ('back', 'a')), ('steady', STATES[:1] + STATES[2:]))
        self.refuse_two('event', (0, ('back', 'b')), ('steady', STATES[:6] + STATES[7:]))
        self.refuse_two('event', (1, ('back', 'b')), ('steady', STATES[:2] + STATES[3:]))
        self.refuse_two('event', (0, ('lost', 'a')), ('steady', STATES[1:]))

    def test_returns_are_less_than_losses(self):
        # Of AB both the return of c and the losses lead to no state, of ABC each loss.
        self.refuse_two('event', (0, ('back', 'c')), ('steady', ((AB, AB),)), AB, AB)
        self.refuse_two('event', (0, ('lost', 'a')), ('steady', ((ABC, AB),)))
        self.refuse_two('event', (0, ('lost', 'b')), ('steady', ((ABC, AB), (('b', 'c'), ()))))
        self.refuse_two('event', (0, ('lost', 'c')), ('steady', ((ABC, AB), (AC, AC), (('b', 'c'), ()))))

    def test_a_stuck_loss(self):
        self.refuse_zero('event', (3, ('lost', 'b')), STEADY)
        self.refuse(lets_steady, 'event', (0, ('lost', 'a')), FOUR, people_in(FOUR), FOUR[0], 1,
                    ('steady', ((people_in(FOUR), FOUR[0]),)))

    def test_one_of_several_crews_is_enough(self):
        # The return of a to b and c is answered by any crew, the return of c to a and b by the crew that stays.
        self.refuse_two('event', (2, ('back', 'c')), ('steady', STATES[:3] + STATES[4:]), AC, AC)
        self.refuse_two('event', (4, ('back', 'b')), ('steady', STATES[:4] + STATES[5:]))
        crews = (('a',), ('b',))
        states = (((), ()), (('a',), ('a',)), (('a', 'b'), ('a',)), (('a', 'b'), ('b',)), (('b',), ('b',)))
        self.assertIs(lets_steady(crews, (), (), 1, ('steady', states)), True)

    def test_kept(self):
        # With the kept b and c nobody but a can be lost, so the crew (a, b) stays.
        states = ((ABC, AB), (('b', 'c'), ()))
        self.assertIs(lets_steady(TWO, ABC, AB, 0, ('steady', states), kept=('b', 'c')), True)
        self.refuse_zero('event', (0, ('lost', 'b')), ('steady', states), kept=('c',))
        self.refuse_zero('event', (0, ('lost', 'c')), ('steady', states), kept=('b',))

    def test_kept_people_who_are_absent_can_come_back(self):
        self.refuse_zero('event', (0, ('back', 'c')), ('steady', ((AB, AB),)), AB, AB, kept=ABC)
        self.assertIs(lets_steady(TWO, AB, AB, 0, ('steady', ((AB, AB), (ABC, AB))), kept=ABC), True)


class TestUnsteady(SteadyTest):
    def test_accepted(self):
        self.assertIs(lets_steady(TWO, ABC, AB, 0, UNSTEADY), False)
        self.assertIs(lets_steady(TWO, AB, AB, 0, UNSTEADY), False)
        self.assertIs(lets_steady(TWO, ABC, AB, 0, ('unsteady', ((ABC, AB, SIXTY, ('lost', 'b')),))), False)

    def test_event(self):
        for event in (('back', 'a'), ('back', 'b'), ('lost', 'd'), ('back', 'd'), ('lost', 'zz')):
            self.refuse_zero('event', (1, event), with_part(UNSTEADY, (1, 1, 3), event))
        self.refuse_zero('event', (0, ('lost', 'c')), with_part(UNSTEADY, (1, 0, 3), ('lost', 'c')))
        self.refuse_zero('event', (1, ('lost', 'b')), UNSTEADY, kept=('b',))

    def test_rank(self):
        self.refuse_zero('rank', 0, with_part(UNSTEADY, (1, 0, 2), 0))
        self.refuse_zero('rank', 0, with_part(UNSTEADY, (1, 1, 2), 1))
        self.refuse_zero('rank', 0, with_part(UNSTEADY, (1, 1, 2), SIXTY))
        self.assertIs(lets_steady(TWO, ABC, AB, 0, with_part(with_part(UNSTEADY, (1, 1, 2), 7), (1, 0, 2), SIXTY)), False)

    def test_a_state_without_a_row(self):
        self.refuse_zero('rank', 0, ('unsteady', UNSTEADY[1][:1]), AB, AB)
        self.refuse_zero('rank', 0, ('unsteady', ((ABC, AB, 5, ('lost', 'a')),)))
        self.refuse_zero('rank', 0, ('unsteady', ((ABC, AB, 5, ('lost', 'c')),)))

    def test_each_state_to_which_the_event_leads_needs_a_row(self):
        rows = ((ABC, AB, 0, ('lost', 'b')), (ABC, AC, 0, ('lost', 'c')), (('b', 'c'), (), 1, ('back', 'a')))
        self.assertIs(lets_steady(TWO, ('b', 'c'), (), 0, ('unsteady', rows)), False)
        for k in (0, 1):
            self.refuse_zero('rank', 1, ('unsteady', rows[:k] + rows[k + 1:]), ('b', 'c'), ())

    def test_the_width(self):
        self.refuse_two('rank', 1, UNSTEADY)
        self.refuse_two('rank', 0, ('unsteady', UNSTEADY[1][1:]))

    def test_event_and_rank_row_by_row(self):
        self.refuse_zero('rank', 0, ('unsteady', (UNSTEADY[1][0][:2] + (0, ('back', 'c')), FIRST[:3] + (('back', 'a'),))))
        self.refuse_zero('event', (0, ('back', 'b')), ('unsteady', ((AB, AB, 0, ('back', 'b')), FIRST[:3] + (('back', 'a'),))))
        self.refuse_zero('event', (1, ('back', 'a')), ('unsteady', (UNSTEADY[1][0], FIRST[:3] + (('back', 'a'),))))

    def test_kept_people_who_are_absent_can_come_back(self):
        self.assertIs(lets_steady(TWO, AB, AB, 0, UNSTEADY, kept=('c',)), False)


class TestAll(SteadyTest):
    def test_unknown_people_come_first(self):
        for thing in (None, STEADY):
            self.unknown('x', lets_steady, TWO, ('a', 'x', 'y'), ('w',), 1, thing, kept=('z',))
            self.unknown('w', lets_steady, TWO, ABC, ('a', 'w'), 1, thing, kept=('z',))
            self.unknown('y', lets_steady, TWO, (), (), 1, thing, kept=('a', 'y', 'z'))

    def test_changed_papers_that_are_accepted_are_true(self):
        rnd = Random(44)
        results = []
        for _ in range(3000):
            crews = rnd.choice((TWO, FOUR, PAIRS[:3], random_crews(rnd, 'abc', 4)))
            present, crew = rnd.choice(states_in(crews))
            width = rnd.choice((0, 0, 1, 2))
            kept = tuple(rnd.sample(people_in(crews), rnd.choice((0, 0, 1))))
            thing = changed(rnd, steady_paper(crews, present, crew, rnd.choice((width, 0, 1)), kept=kept))
            try:
                result = lets_steady(crews, present, crew, width, thing, kept=kept)
                self.assertIs(result, (present, crew) in steady_directly(crews, width, kept), thing)
                results.append('accepted')
            except InvalidPaper as error:
                results.append(error.word)
        self.assertEqual(set(results), {'accepted', 'shape', 'state', 'rise', 'start', 'event', 'rank'})

    def test_situations_of_more_people(self):
        self.assertIs(lets_steady(PAIRS, FIVE, ('m', 'n'), 1, steady_paper(PAIRS, FIVE, ('m', 'n'), 1)), False)
        self.assertIs(lets_steady(PAIRS, FIVE, ('m', 'n'), 2, steady_paper(PAIRS, FIVE, ('m', 'n'), 2)), True)


if __name__ == '__main__':
    unittest.main()
