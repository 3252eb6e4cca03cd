import unittest
from random import Random

from crewbook.errors import InvalidPaper
from crewbook.goodchecker import lets_good
from crewbook.goodpapers import good_paper
from tests.samples import (FIVE, FOUR, ODD, PAIRS, SIXTY, TWO, CrewTest, all_crews, changed, good_directly, nested,
                           places_in, with_part)

ROWS = ((0, 1, 'b', 'c'), (1, 0, 'c', 'b'))
GOOD = ('good', ROWS)
BAD = ('bad', ('m', 'p', 'q', 'r'), ('m', 'p'), 'm')
RING = (('a', 'b'), ('a', 'c'), ('b', 'c'))
RING_ROWS = ((0, 1, 'b', 'c'), (0, 2, 'a', 'c'), (1, 0, 'c', 'b'), (1, 2, 'a', 'b'), (2, 0, 'c', 'a'), (2, 1, 'b', 'a'))


class GoodTest(CrewTest):
    def refuse_good(self, word, at, thing, crews=TWO):
        self.refuse(lets_good, word, at, crews, thing)


class TestShape(GoodTest):
    def test_odd_values(self):
        row = ROWS[0]
        for thing in ODD + ((), nested(30), 'good', 'bad', ('good',), ('bad',), ROWS, ['good', ROWS], ('good', None),
                            ('good', list(ROWS)), ('good', ROWS, ()), ('fine', ROWS), (True, ROWS), ('good', 'ab'),
                            ('good', (row, None)), ('good', (row, list(row))), ('good', (row, row[:3])),
                            ('good', (row, row + ('a',))), ('good', row), ('bad', ROWS), ('good',) + BAD[1:]):
            self.refuse_good('shape', -1, thing)

    def test_rows(self):
        for k, odds in enumerate(((True, False, -1, None, 'a', (0,), -SIXTY), (True, False, -1, None, 'b', (1,)),
                                  (0, None, 'B', '', ('b',), True, 'abcdefghi'), (1, None, 'C', 'c ', ['c'], False))):
            for odd in odds:
                self.refuse_good('shape', -1, ('good', (with_part(ROWS[0], (k,), odd), ROWS[1])))
                self.refuse_good('shape', -1, ('good', (ROWS[0], with_part(ROWS[1], (k,), odd))))

    def test_true_is_not_one(self):
        self.refuse_good('shape', -1, ('good', ((0, True, 'b', 'c'), ROWS[1])))
        self.refuse_good('shape', -1, ('good', (ROWS[0], (1, False, 'c', 'b'))))
        self.refuse_good('shape', -1, ('good', (ROWS[0], (True, 0, 'c', 'b'))))

    def test_bad_papers(self):
        for k in (1, 2, 3):
            for odd in (None, 1, True, '', 'A', ['m'], ('m', 1), (('m',),), ('M',), 'mn' if k < 3 else ('m',)):
                self.refuse_good('shape', -1, with_part(BAD, (k,), odd), PAIRS)
        for thing in (BAD[:3], BAD + ('m',), list(BAD), ('bad', BAD[1:])):
            self.refuse_good('shape', -1, thing, PAIRS)

    def test_right_shapes(self):
        self.refuse_good('many', -1, ('good', ()))
        self.refuse_good('present', -1, ('bad', ('z', 'y'), (), 'x'))
        self.refuse_good('crew', -1, ('bad', (), (), 'x'))


class TestGood(GoodTest):
    def test_accepted(self):
        self.assertIs(lets_good(TWO, GOOD), True)
        self.assertIs(lets_good(RING, ('good', RING_ROWS)), True)
        self.assertIs(lets_good((('a', 'b'),), ('good', ())), True)
        self.assertIs(lets_good(crews=TWO, thing=GOOD), True)

    def test_any_exchange_that_is_possible(self):
        crews = (('a', 'b'), ('a', 'c'), ('a', 'd'), ('b', 'c'), ('b', 'd'), ('c', 'd'))
        rows = good_paper(crews)[1]
        other = tuple((i, j, person, max(set(crews[j]) - set(crews[i]))) for i, j, person, _ in rows)
        least = tuple((i, j, person, min(set(crews[j]) - set(crews[i]))) for i, j, person, _ in rows)
        self.assertNotEqual(other, least)
        self.assertIs(lets_good(crews, ('good', other)), True)
        self.assertIs(lets_good(crews, ('good', least)), True)

    def test_many(self):
        for rows in ((), ROWS[:1], ROWS + ROWS[:1], ROWS + ((0, 0, 'a', 'b'),), ((7, 7, 'z', 'z'),) * 3):
            self.refuse_good('many', -1, ('good', rows))
        self.refuse_good('many', -1, ('good', ROWS[:1]), (('a', 'b'),))

    def test_row(self):
        for row in ((1, 0, 'b', 'c'), (0, 0, 'b', 'c'), (0, 2, 'b', 'c'), (SIXTY, 1, 'b', 'c'), (0, 1, 'a', 'c'),
                    (0, 1, 'z', 'c')):
            self.refuse_good('row', 0, ('good', (row, ROWS[1])))
        self.refuse_good('row', 1, ('good', (ROWS[0], ROWS[0])))
        self.refuse_good('row', 0, ('good', ROWS[::-1]))
        for k in range(5):
            order = RING_ROWS[:k] + (RING_ROWS[k + 1], RING_ROWS[k]) + RING_ROWS[k + 2:]
            self.refuse_good('row', k, ('good', order), RING)

    def test_exchange(self):
        for other in ('a', 'b', 'z'):
            self.refuse_good('exchange', 0, ('good', ((0, 1, 'b', other), ROWS[1])))
        for other in ('a', 'c', 'z'):
            self.refuse_good('exchange', 1, ('good', (ROWS[0], (1, 0, 'c', other))))
        # c is in crew 2, not in crew 0, but b and c are no crew.
        crews = (('a', 'b'), ('a', 'c'), ('c', 'd'))
        rows = ((0, 1, 'b', 'c'), (0, 2, 'a', 'c'), (0, 2, 'b', 'c'), (1, 0, 'c', 'b'), (1, 2, 'a', 'd'), (2, 0, 'c', 'a'),
                (2, 0, 'd', 'a'), (2, 1, 'd', 'a'))
        self.refuse_good('exchange', 1, ('good', rows), crews)
        # Person a could be exchanged for d, who is in crew 1, but not in crew 2.
        crews = (('a', 'b'), ('b', 'd'), ('c', 'd'))
        rows = ((0, 1, 'a', 'd'), (0, 2, 'a', 'd'), (0, 2, 'b', 'd'), (1, 0, 'd', 'a'), (1, 2, 'b', 'c'), (2, 0, 'c', 'b'),
                (2, 0, 'd', 'b'), (2, 1, 'c', 'b'))
        self.refuse_good('exchange', 2, ('good', rows), crews)

    def test_other_must_be_in_crew_j(self):
        crews = (('a', 'b'), ('a', 'c'), ('a', 'd'))
        rows = good_paper(crews)[1]
        self.assertEqual(rows[0], (0, 1, 'b', 'c'))
        self.refuse_good('exchange', 0, ('good', ((0, 1, 'b', 'd'),) + rows[1:]), crews)

    def test_row_by_row(self):
        self.refuse_good('exchange', 0, ('good', ((0, 1, 'b', 'b'), (0, 1, 'c', 'b'))))
        self.refuse_good('row', 0, ('good', ((0, 1, 'a', 'b'), (1, 0, 'c', 'c'))))


class TestBad(GoodTest):
    def test_example_of_the_document(self):
        self.assertIs(lets_good(PAIRS, BAD), False)

    def test_present(self):
        for present in (('p', 'm', 'q', 'r'), ('m', 'm', 'p', 'q'), ('m', 'p', 'q', 'z'), ('z',)):
            self.refuse_good('present', -1, ('bad', present, ('m', 'p'), 'm'), PAIRS)

    def test_crew(self):
        for crew in ((), ('m',), ('p', 'm'), ('m', 'n'), ('m', 'r'), ('z',), ('m', 'p', 'q')):
            self.refuse_good('crew', -1, ('bad', BAD[1], crew, 'm'), PAIRS)
        self.refuse_good('crew', -1, ('bad', (), ('m', 'p'), 'm'), PAIRS)

    def test_lost(self):
        for lost in ('q', 'n', 'z'):
            self.refuse_good('lost', -1, ('bad', BAD[1], ('m', 'p'), lost), PAIRS)

    def test_over(self):
        self.refuse_good('over', -1, ('bad', ('m', 'p'), ('m', 'p'), 'm'), PAIRS)
        self.refuse_good('over', -1, ('bad', ('m', 'p', 'q'), ('m', 'p'), 'm'), PAIRS)

    def test_answer(self):
        self.refuse_good('answer', -1, ('bad', BAD[1], ('m', 'p'), 'p'), PAIRS)
        self.refuse_good('answer', -1, ('bad', FIVE, ('m', 'n'), 'n'), PAIRS)
        self.refuse_good('answer', -1, ('bad', ('a', 'b', 'c'), ('a', 'b'), 'b'))
        # The width is 1: two people who are new are too many.
        self.assertIs(lets_good(FOUR, ('bad', ('a', 'b', 'c', 'd'), ('a', 'b'), 'a')), False)

    def test_the_order_of_the_words(self):
        self.refuse_good('present', -1, ('bad', ('z', 'y'), ('x',), 'w'), PAIRS)
        self.refuse_good('crew', -1, ('bad', ('m', 'n'), ('m', 'p'), 'q'), PAIRS)
        self.refuse_good('lost', -1, ('bad', ('m', 'n'), ('m', 'n'), 'q'), PAIRS)

    def test_good_crews_have_no_bad_paper(self):
        for present in (('a', 'b'), ('a', 'b', 'c'), ('a', 'c')):
            for crew in TWO:
                for lost in present:
                    with self.assertRaises(InvalidPaper):
                        lets_good(TWO, ('bad', present, crew, lost))


class TestTruth(GoodTest):
    def test_changed_papers_that_are_accepted_are_true(self):
        rnd = Random(17)
        pool = all_crews(('a', 'b', 'c', 'd'), 4)
        results = []
        for _ in range(4000):
            crews, others = rnd.choice(pool), rnd.choice(pool)
            thing = good_paper(rnd.choice((crews, crews, others)))
            thing = changed(rnd, thing) if len(places_in(thing)) > 1 else thing
            try:
                self.assertIs(lets_good(crews, thing), good_directly(crews), (crews, thing))
                results.append('accepted')
            except InvalidPaper as error:
                results.append(error.word)
        self.assertEqual(set(results), {'accepted', 'shape', 'many', 'row', 'exchange', 'present', 'crew', 'lost', 'over',
                                        'answer'})


if __name__ == '__main__':
    unittest.main()
