import unittest
from random import Random

from crewbook.carelesschecker import lets_careless
from crewbook.carelesspapers import careless_paper
from crewbook.errors import InvalidPaper
from tests.samples import (FIVE, FOUR, ODD, PAIRS, SIXTY, TWO, CrewTest, changed, is_careless_directly, left_in, nested,
                           people_in, random_crews, with_part)

ABC = ('a', 'b', 'c')
AB, AC = TWO
MN, MP, MQ, NQ, QR = PAIRS
# A careless paper of ABC, AB for the crews TWO and width 1.
ROWS = ((AB, AB), (ABC, AB), (AC, AC))
CARELESS = ('careless', ROWS)
# A way of two steps for PAIRS, width 1 and the crew MN, in which the crew stays first.
WAY = (('r', None), ('n', MP))
STUCK = ('stuck', (('n', MP),), 'm')


class CarelessTest(CrewTest):
    def refuse_two(self, word, at, thing, present=ABC, crew=AB, width=1, **named):
        self.refuse(lets_careless, word, at, TWO, present, crew, width, thing, **named)

    def refuse_pairs(self, word, at, way, lost, present=FIVE, crew=MN, width=1, **named):
        self.refuse(lets_careless, word, at, PAIRS, present, crew, width, ('stuck', way, lost), **named)


class TestShape(CarelessTest):
    def test_odd_values(self):
        for thing in ODD + ((), nested(30), 'careless', 'stuck', ('careless',), ('stuck',), ('stuck', ()), CARELESS + ((),),
                            STUCK + ('m',), STUCK[:2], list(CARELESS), list(STUCK), ('careless', None), ('stuck', None, 'm'),
                            ('careless', list(ROWS)), ('stuck', list(WAY), 'm'), ('calm', ROWS), (True, ROWS), (ROWS, 'careless'),
                            ('careless', 'ab'), ('careless', ROWS[0] + (None,)), ('careless', (ROWS[0], None)),
                            ('careless', (ROWS[0], list(ROWS[0]))), ('careless', (ROWS[0] + ((),),)), ('careless', (AB,)),
                            ('careless', AB), ('careless', ROWS, 'a'), ('stuck', ROWS), ('stuck', ROWS, 'a'), ('careless', WAY)):
            self.refuse_two('shape', -1, thing)

    def test_parts_of_rows(self):
        for odd in (None, 1, True, '', 'a', ['a'], ('a', 1), (('a',),), ('A',), (None,)):
            for k in (0, 1):
                self.refuse_two('shape', -1, with_part(CARELESS, (1, 2, k), odd))

    def test_parts_of_ways(self):
        for odd in (None, 1, True, '', 'A', ('m',), ['m'], 'abcdefghi', -SIXTY, ()):
            self.refuse_pairs('shape', -1, with_part(WAY, (1, 0), odd), 'm')
            self.refuse_pairs('shape', -1, WAY, odd)
        for odd in (1, True, False, 'a', '', ['m', 'p'], ('m', 1), ('m', ['p']), ('M',), (None,), (MP,), -SIXTY):
            self.refuse_pairs('shape', -1, with_part(WAY, (1, 1), odd), 'm')
        for odd in (None, 1, 'n', (), ('n',), ('n', MP, MP), ['n', MP], (MP, 'n'), (('n', MP),)):
            self.refuse_pairs('shape', -1, with_part(WAY, (1,), odd), 'm')
        for odd in (None, 1, 'mp', ('n', MP), ['n'], [], WAY[0]):
            self.refuse_pairs('shape', -1, odd, 'm')

    def test_right_shapes(self):
        self.refuse_two('start', -1, ('careless', ()))
        self.refuse_two('situation', 0, ('careless', (((), ()),)))
        self.refuse_two('situation', 0, ('careless', ((('y', 'x'), ('zz',)),)))
        self.refuse_pairs('end', -1, (), 'zz')
        self.refuse_pairs('lost', 0, (('zz', None),), 'zz')
        self.refuse_pairs('answer', 0, (('n', ()),), 'zz')


class TestSituations(CarelessTest):
    def test_situation(self):
        for people, crew in (((), ()), (AB, ()), (AB, ('a',)), (AB, AC), (('b', 'a'), AB), (('a', 'a', 'b'), AB),
                             (('a', 'b', 'd'), AB), (AB, ('b', 'a')), (('b', 'c'), ('b', 'c')), (('b', 'c'), ())):
            for k in range(3):
                self.refuse_two('situation', k, with_part(CARELESS, (1, k), (people, crew)))

    def test_rise(self):
        self.refuse_two('rise', 1, ('careless', (ROWS[0], ROWS[0], ROWS[1], ROWS[2])))
        self.refuse_two('rise', 3, ('careless', ROWS + (ROWS[2],)))
        self.refuse_two('rise', 1, ('careless', ROWS[::-1]))
        self.refuse_two('rise', 2, ('careless', (ROWS[0], ROWS[2], ROWS[1])))
        self.refuse_two('rise', 1, ('careless', ((ABC, AC), (ABC, AB))))

    def test_situation_and_rise_row_by_row(self):
        self.refuse_two('rise', 1, ('careless', (ROWS[0], ROWS[0], ((), ()))))
        self.refuse_two('situation', 1, ('careless', (ROWS[2], (AB, AC), ROWS[0])))

    def test_start(self):
        self.refuse_two('start', -1, ('careless', ROWS[:1] + ROWS[2:]))
        self.refuse_two('start', -1, CARELESS, crew=AC)
        self.refuse_two('start', -1, ('careless', ((ABC, AC),)))
        self.assertIs(lets_careless(TWO, AB, AB, 1, CARELESS), True)


class TestCareless(CarelessTest):
    def test_accepted(self):
        self.assertIs(lets_careless(TWO, ABC, AB, 1, CARELESS), True)
        self.assertIs(lets_careless(TWO, ABC, AB, SIXTY, CARELESS), True)
        self.assertIs(lets_careless(crews=TWO, present=ABC, crew=AB, width=1, thing=CARELESS, kept=()), True)
        self.by_name_only(lets_careless, TWO, ABC, AB, 1, CARELESS, ())

    def test_rows_of_other_situations_may_stand_there(self):
        more = (ROWS[0], ROWS[1], (ABC, AC), ROWS[2])
        self.assertIs(lets_careless(TWO, ABC, AB, 1, ('careless', more)), True)

    def test_a_loss_without_a_row(self):
        self.refuse_two('loss', (0, 2), ('careless', ROWS[1:]))
        self.refuse_two('loss', (1, 1), ('careless', ROWS[:2]))
        self.refuse_two('loss', (0, 1), ('careless', ((ABC, AB),)))

    def test_each_answer_needs_a_row(self):
        crews = (('a', 'b'), ('a', 'c'), ('a', 'd'))
        people = ('a', 'b', 'c', 'd')
        word, rows = careless_paper(crews, people, AB, 1)
        self.assertIs(lets_careless(crews, people, AB, 1, (word, rows)), True)
        for k, row in enumerate(rows):
            if row != (people, AB):
                with self.assertRaises(InvalidPaper) as caught:
                    lets_careless(crews, people, AB, 1, (word, rows[:k] + rows[k + 1:]))
                self.assertEqual(caught.exception.word, 'loss')
        start = rows.index((people, AB))
        for other in (('a', 'c'), ('a', 'd')):
            without = tuple(row for row in rows if row != (('a', 'c', 'd'), other))
            self.refuse(lets_careless, 'loss', (without.index((people, AB)), 1), crews, people, AB, 1, (word, without))
        self.assertGreater(start, 0)

    def test_a_stuck_loss(self):
        for width, at in ((0, (1, 1)), (1, None)):
            if at is None:
                self.assertIs(lets_careless(TWO, ABC, AB, width, CARELESS), True)
            else:
                self.refuse_two('loss', at, CARELESS, width=width)
        rows = ((('a', 'b', 'c', 'd'), ('a', 'b')),)
        self.refuse(lets_careless, 'loss', (0, 0), FOUR, rows[0][0], rows[0][1], 1, ('careless', rows))

    def test_a_loss_that_ends_the_duty(self):
        self.assertIs(lets_careless(TWO, AB, AB, 0, ('careless', (ROWS[0],))), True)
        self.assertIs(lets_careless((('a',),), ('a',), ('a',), 0, ('careless', ((('a',), ('a',)),))), True)

    def test_row_by_row(self):
        rows = ((ABC, AB), (ABC, AC))
        self.refuse_two('loss', (0, 1), ('careless', rows))
        self.refuse_two('loss', (1, 1), ('careless', (ROWS[0],) + rows), width=0)

    def test_kept(self):
        self.refuse_two('loss', (0, 0), ('careless', ((ABC, AB),)), kept=('a',))
        self.refuse_two('loss', (0, 1), ('careless', ((ABC, AB),)), kept=('b',))
        self.assertIs(lets_careless(TWO, ABC, AB, 0, ('careless', ROWS[:2]), kept=('b',)), True)
        self.assertIs(lets_careless(TWO, ABC, AB, 0, ('careless', ((ABC, AB),)), kept=ABC), True)

    def test_kept_people_who_are_absent_have_no_effect(self):
        self.assertIs(lets_careless(TWO + (('d',),), ABC, AB, 1, CARELESS, kept=('d',)), True)


class TestStuck(CarelessTest):
    def test_example_of_the_document(self):
        self.assertIs(lets_careless(PAIRS, FIVE, MN, 1, STUCK), False)

    def test_ways(self):
        self.assertIs(lets_careless(PAIRS, ('m', 'p', 'q', 'r'), MP, 1, ('stuck', (), 'm')), False)
        self.assertIs(lets_careless(PAIRS, FIVE, MP, 1, ('stuck', (('n', None),), 'm')), False)
        self.assertIs(lets_careless(crews=PAIRS, present=FIVE, crew=MN, width=1, thing=STUCK, kept=('p',)), False)
        # After this way only m, p and q are present, and the loss of m ends the duty.
        self.refuse_pairs('end', -1, WAY, 'm')

    def test_each_answer_does_the_duty_from_then_on(self):
        crews = (('a', 'b'), ('a', 'c'), ('a', 'd'), ('e', 'f'))
        way = (('b', ('a', 'c')), ('c', ('a', 'd')))
        self.assertIs(lets_careless(crews, people_in(crews), AB, 1, ('stuck', way, 'a')), False)
        self.assertIs(lets_careless(crews, people_in(crews), AB, 1, ('stuck', way, 'd')), False)
        for lost in ('b', 'c', 'e'):
            self.refuse(lets_careless, 'end', -1, crews, people_in(crews), AB, 1, ('stuck', way, lost))
        self.refuse(lets_careless, 'end', -1, crews, people_in(crews), AB, 1, ('stuck', way[:1], 'c'))
        self.refuse(lets_careless, 'answer', 1, crews, people_in(crews), AB, 1, ('stuck', (way[0], ('c', None)), 'a'))
        self.refuse(lets_careless, 'answer', 1, crews, people_in(crews), AB, 1, ('stuck', (way[0], ('d', ('a', 'c'))), 'a'))

    def test_lost(self):
        for lost in ('z', 'a'):
            self.refuse_pairs('lost', 0, ((lost, None),), 'm')
            self.refuse_pairs('lost', 1, (('n', MP), (lost, None)), 'm')
        self.refuse_pairs('lost', 0, (('n', MP),), 'm', kept=('n',))
        self.refuse_pairs('lost', 1, (('n', MP), ('r', None)), 'm', kept=('r',))
        self.refuse_pairs('lost', 1, (('n', MP), ('n', None)), 'm')
        self.refuse_pairs('lost', 0, (('n', MP),), 'm', present=('m', 'p', 'q', 'r'), crew=MP)

    def test_a_loss_that_ends_the_duty(self):
        for answer in (None, MN, MP, ()):
            self.refuse_pairs('lost', 0, (('n', answer),), 'm', present=('m', 'n'))
        self.refuse_pairs('lost', 2, (('q', None), ('n', MP), ('m', None)), 'm')

    def test_answer(self):
        for answer in (None, MN, (), NQ, QR, ('m',), ('p', 'm'), ('m', 'z'), FIVE):
            self.refuse_pairs('answer', 0, (('n', answer),), 'm')
        for answer in (MN, MP, ()):
            self.refuse_pairs('answer', 0, (('r', answer),), 'm')
        self.refuse_pairs('answer', 1, (('n', MP), ('p', MN)), 'm')
        self.refuse_pairs('answer', 1, (('n', MP), ('q', MP)), 'm')

    def test_answer_where_the_loss_is_stuck(self):
        people = ('m', 'p', 'q', 'r')
        for answer in (None, MP, QR, MQ, ()):
            self.refuse_pairs('answer', 0, (('m', answer),), 'q', present=people, crew=MP)
            self.refuse_pairs('answer', 1, (('n', MP), ('m', answer)), 'q')
            self.refuse_pairs('answer', 1, (('n', MP), ('m', answer), ('z', None)), 'z')

    def test_end(self):
        for lost in ('z', 'n', 'a'):
            self.refuse_pairs('end', -1, STUCK[1], lost)
        # A person who is kept, whose loss is not stuck: the crew stays, there is an answer, or the duty is over.
        self.refuse_pairs('end', -1, STUCK[1], 'm', kept=('m',))
        self.refuse_pairs('end', -1, STUCK[1], 'r')
        self.refuse_pairs('end', -1, STUCK[1], 'p')
        self.refuse_pairs('end', -1, (), 'n')
        self.refuse_pairs('end', -1, (), 'm', present=('m', 'n'))
        self.refuse_pairs('end', -1, (('q', None), ('n', MP)), 'm')

    def test_the_words_in_their_order(self):
        self.refuse_pairs('lost', 0, (('z', MN), ('n', MN)), 'z')
        self.refuse_pairs('answer', 0, (('n', MN), ('z', MN)), 'z')
        self.refuse_pairs('answer', 1, (('r', None), ('n', None), ('z', MN)), 'z')
        self.refuse_pairs('lost', 1, (('n', MP), ('z', None), ('m', None)), 'z')
        self.refuse_pairs('answer', 1, (('n', MP), ('m', None)), 'm', kept=('r',))
        self.refuse_pairs('lost', 1, (('n', MP), ('m', None)), 'm', kept=('m',))

    def test_the_width(self):
        self.refuse_pairs('end', -1, STUCK[1], 'm', width=2)
        self.refuse_pairs('answer', 0, STUCK[1], 'm', width=0)
        self.assertIs(lets_careless(PAIRS, FIVE, MN, 0, ('stuck', (), 'm')), False)
        self.refuse_pairs('answer', 0, (('n', QR),), 'm')
        self.refuse_pairs('end', -1, (('n', QR),), 'm', width=2)

    def test_kept_people_who_are_absent_have_no_effect(self):
        self.assertIs(lets_careless(PAIRS, ('m', 'p', 'q', 'r'), MP, 1, ('stuck', (), 'm'), kept=('n', 'q')), False)

    def test_a_calm_situation_can_have_a_stuck_paper(self):
        self.assertEqual(careless_paper(PAIRS, FIVE, MN, 1)[0], 'stuck')


class TestAll(CarelessTest):
    def test_unknown_people_come_first(self):
        for thing in (None, CARELESS, STUCK, ('stuck', (), 'zz')):
            self.unknown('x', lets_careless, TWO, ('a', 'x', 'y'), ('w',), 1, thing, kept=('z',))
            self.unknown('w', lets_careless, TWO, ABC, ('a', 'w'), 1, thing, kept=('z',))
            self.unknown('y', lets_careless, TWO, ABC, AB, 1, thing, kept=('a', 'y', 'z'))

    def test_unknown_people_in_papers_are_no_error_of_their_own(self):
        self.refuse_two('lost', 0, ('stuck', (('z', None),), 'y'))
        self.refuse_two('answer', 0, ('stuck', (('b', ('y', 'z')),), 'y'))
        self.refuse_two('end', -1, ('stuck', (), 'y'))
        self.refuse_two('situation', 0, ('careless', ((('a', 'b', 'z'), AB),)))

    def test_changed_papers_that_are_accepted_are_true(self):
        rnd = Random(81)
        results = []
        for _ in range(4000):
            crews = rnd.choice((TWO, FOUR, PAIRS, random_crews(rnd, 'abcd', 5)))
            present = people_in(crews)
            crew = rnd.choice(left_in(crews, present))
            width = rnd.choice((0, 1, 1, 2))
            kept = tuple(rnd.sample(present, rnd.choice((0, 0, 1))))
            paper = careless_paper(crews, present, crew, rnd.choice((width, 0, 2)), kept=rnd.choice((kept, ())))
            thing = changed(rnd, paper)
            try:
                result = lets_careless(crews, present, crew, width, thing, kept=kept)
                self.assertIs(result, is_careless_directly(crews, present, crew, width, kept), thing)
                results.append('accepted')
            except InvalidPaper as error:
                results.append(error.word)
        self.assertEqual(set(results), {'accepted', 'shape', 'situation', 'rise', 'start', 'loss', 'lost', 'answer', 'end'})


if __name__ == '__main__':
    unittest.main()
