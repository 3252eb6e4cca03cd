import unittest
from random import Random

from crewbook.offers import lets_offers
from tests.samples import ODD, PAIRS, SIXTY, THIRTEEN, CrewTest, nested, subsets

OFFERS = (('crew', ('p', 'q')), ('keep', 'm'))


class TestLetsOffers(CrewTest):
    def refuse_pairs(self, word, at, *offers):
        self.refuse(lets_offers, word, at, PAIRS, offers)

    def test_offers(self):
        self.assertEqual(lets_offers(PAIRS, OFFERS), 2)
        self.assertEqual(lets_offers(PAIRS, ()), 0)
        self.assertEqual(lets_offers(PAIRS, OFFERS[1:]), 1)
        self.assertEqual(lets_offers(crews=PAIRS, thing=OFFERS[:1]), 1)
        self.assertEqual(lets_offers(PAIRS, (('crew', ('m', 'r')), ('crew', ('n', 'p', 'r'))) + OFFERS), 4)

    def test_more_offers_than_the_limit(self):
        crews = tuple((name,) for name in THIRTEEN)
        self.assertEqual(lets_offers(crews, tuple(('keep', name) for name in THIRTEEN)), 13)

    def test_shape(self):
        for thing in ODD + (nested(30), list(OFFERS), OFFERS[0], 'crew', ('keep', 'm'), (OFFERS,), (('keep', 'm', 'n'),),
                            (('crew',),), (('crew', 'm'),), (('keep', ('m',)),), (('crew', None),), (('keep', None),),
                            (('keep', 'M'),), (('keep', ''),), (('keep', 1),), (('keep', True),), (('crew', ['p', 'q']),),
                            (('crew', ('p', 'Q')),), (('crew', ('p', 1)),), (('crew', (('p', 'q'),)),),
                            (('hold', 'm'),), ((True, 'm'),), ((None, ('p', 'q')),), (['keep', 'm'],), (('m', 'keep'),)):
            self.refuse(lets_offers, 'shape', -1, PAIRS, thing)
            if isinstance(thing, tuple):
                self.refuse(lets_offers, 'shape', -1, PAIRS, (('keep', 'z'),) + thing + ((SIXTY,),))

    def test_rise(self):
        self.refuse_pairs('rise', 1, ('keep', 'm'), ('keep', 'm'))
        self.refuse_pairs('rise', 1, ('keep', 'm'), ('crew', ('p', 'q')))
        self.refuse_pairs('rise', 1, ('crew', ('p', 'q')), ('crew', ('m', 'r')))
        self.refuse_pairs('rise', 2, ('crew', ('p', 'q')), ('keep', 'n'), ('keep', 'm'))
        self.refuse_pairs('rise', 1, ('crew', ('p', 'q')), ('crew', ('p', 'q')))

    def test_an_offer_of_no_set(self):
        for crew in ((), ('q', 'p'), ('p', 'p'), ('p', 'q', 'q'), ('p', 'z'), ('z',), ('a', 'p')):
            self.refuse_pairs('offer', 0, ('crew', crew))

    def test_an_offer_of_an_unknown_person(self):
        for person in ('a', 'z', 'mm'):
            self.refuse_pairs('offer', 0, ('keep', person))
        self.refuse_pairs('offer', 1, ('keep', 'm'), ('keep', 'z'))

    def test_crews_of_the_list(self):
        for crew in (('m', 'n'), ('q', 'r'), ('m',), ('r',), ('m', 'n', 'p'), ('n', 'p', 'q'), ('m', 'n', 'p', 'q', 'r')):
            self.refuse_pairs('offer', 0, ('crew', crew))
            self.refuse_pairs('offer', 0, ('crew', crew), ('keep', 'm'))

    def test_earlier_offers(self):
        crews = (('a', 'b', 'c', 'd'), ('e', 'f', 'g'))
        for sets in ((('a', 'b', 'e'), ('a', 'e')), (('a', 'e'), ('a', 'e', 'f')), (('a', 'b', 'e'), ('a', 'f'), ('b', 'e')),
                     (('a', 'e'), ('b', 'f'), ('b', 'f', 'g'))):
            offers = tuple(('crew', crew) for crew in sets)
            self.refuse(lets_offers, 'offer', len(sets) - 1, crews, offers)
            self.assertEqual(lets_offers(crews, offers[:-1]), len(sets) - 1)
            self.assertEqual(lets_offers(crews, offers[-1:]), 1)

    def test_against_the_definition(self):
        rnd = Random(18)
        words = []
        for _ in range(2000):
            sets = sorted(rnd.sample(subsets(('m', 'n', 'p', 'q', 'r')), rnd.randint(0, 4)))
            kept = sorted(rnd.sample('mnpqrz', rnd.randint(0, 1)))
            offers = tuple([('crew', some) for some in sets] + [('keep', person) for person in kept])
            wrong = [k for k, some in enumerate(sets) if not some or any(
                set(some) <= set(other) or set(other) <= set(some) for other in PAIRS + tuple(sets[:k]))]
            wrong += [len(sets)] if 'z' in kept else []
            if wrong:
                self.refuse_pairs('offer', wrong[0], *offers)
            else:
                self.assertEqual(lets_offers(PAIRS, offers), len(offers))
            words.append(bool(wrong))
        self.assertEqual(set(words), {True, False})

    def test_unknown_people_are_no_error_of_their_own(self):
        self.refuse_pairs('offer', 0, ('crew', ('x', 'y')))
        self.refuse_pairs('offer', 0, ('keep', 'x'))

    def test_rise_comes_before_offer_and_offer_by_offer(self):
        self.refuse_pairs('rise', 1, ('keep', 'm'), ('keep', 'a'))
        self.refuse_pairs('offer', 0, ('keep', 'a'), ('keep', 'a'))
        self.refuse_pairs('offer', 0, ('crew', ()), ('crew', ()))
        self.refuse_pairs('offer', 1, ('crew', ('m', 'r')), ('crew', ('n', 'q')), ('crew', ('a',)))


if __name__ == '__main__':
    unittest.main()
