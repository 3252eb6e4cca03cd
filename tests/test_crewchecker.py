import unittest
from itertools import product

from crewbook.crewchecker import lets_crews
from crewbook.errors import InvalidPaper
from crewbook.kinds import is_crews
from tests.samples import ODD, PAIRS, THIRTEEN, WIDE, nested


class TestLetsCrews(unittest.TestCase):
    def refuse(self, thing, word, at):
        with self.assertRaises(InvalidPaper) as caught:
            lets_crews(thing)
        self.assertEqual((caught.exception.word, caught.exception.at), (word, at), thing)
        self.assertIs(type(caught.exception.at), type(at))

    def test_crews_are_counted(self):
        for thing in (PAIRS, WIDE, (('a',),), (('a', 'b'), ('b', 'c')), tuple((name,) for name in THIRTEEN)):
            self.assertEqual(lets_crews(thing), len(thing))
        self.assertEqual(lets_crews(thing=PAIRS), 5)

    def test_shape(self):
        for thing in (None, True, 0, -1, 'a', '', [], ['a'], [('a',)], ('a',), (1,), (None,), (('a',), 'b'), (['a'],),
                      ((1,),), (('A',),), (('a', ''),), (('a',), ('abcdefghi',)), ((('a',),),), ((), None), ((), (True,)),
                      nested(30)):
            self.refuse(thing, 'shape', -1)

    def test_empty(self):
        self.refuse((), 'empty', -1)

    def test_crew(self):
        self.refuse(((),), 'crew', 0)
        self.refuse((('a',), ()), 'crew', 1)
        self.refuse((('b', 'a'),), 'crew', 0)
        self.refuse((('a', 'b'), ('c', 'c')), 'crew', 1)

    def test_rise(self):
        self.refuse((('b',), ('a',)), 'rise', 1)
        self.refuse((('a',), ('a',)), 'rise', 1)
        self.refuse((('a',), ('c',), ('b',)), 'rise', 2)
        self.refuse((('b', 'c'), ('b',)), 'rise', 1)

    def test_inside(self):
        self.refuse((('a',), ('a', 'b')), 'inside', (0, 1))
        self.refuse((('a', 'b'), ('b',)), 'inside', (1, 0))
        self.refuse((('a', 'b', 'c'), ('a', 'c')), 'inside', (1, 0))

    def test_the_least_pair(self):
        self.refuse((('a', 'b'), ('a', 'b', 'c'), ('a', 'b', 'd'), ('b',)), 'inside', (0, 1))
        self.refuse((('a', 'b'), ('a', 'c'), ('b',), ('c',)), 'inside', (2, 0))
        self.refuse((('a',), ('b',), ('b', 'c'), ('b', 'd')), 'inside', (1, 2))
        self.refuse((('a', 'c'), ('b', 'c'), ('b', 'd'), ('c',)), 'inside', (3, 0))

    def test_the_order_of_the_words(self):
        self.refuse(((), ('A',)), 'shape', -1)
        self.refuse((('b',), ('a',), ()), 'rise', 1)
        self.refuse((('b',), ()), 'crew', 1)
        self.refuse((('a',), ('a', 'b'), ('a',)), 'rise', 2)
        self.refuse((('a', 'b'), ('b', 'a')), 'crew', 1)
        self.refuse((('a',), ('a', 'b'), ('c', 'b')), 'crew', 2)

    def test_it_accepts_exactly_crews(self):
        sets = ((), ('a',), ('b',), ('a', 'b'), ('b', 'a'), ('a', 'c'), ('A',), 'a', ['a'])
        things = list(ODD) + [PAIRS, ()] + [chosen for many in (1, 2, 3) for chosen in product(sets, repeat=many)]
        for thing in things:
            try:
                accepted = lets_crews(thing) == len(thing)
            except InvalidPaper:
                accepted = False
            self.assertIs(accepted, is_crews(thing), thing)


if __name__ == '__main__':
    unittest.main()
