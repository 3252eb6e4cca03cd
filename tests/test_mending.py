import unittest
from random import Random

from crewbook.books import is_booked
from crewbook.calm import is_calm
from crewbook.mending import least_offers
from crewbook.offers import lets_offers
from tests.samples import (ALL, BIG, FIVE, FOUR, PAIRS, WIDE, CrewTest, books_directly, is_calm_directly, people_in,
                           random_crews, subsets)

MN, MP, MQ, NQ, QR = PAIRS
OFFERS = (('crew', ('p', 'q')), ('keep', 'm'))
STAR = (('a', 'b'), ('a', 'c'), ('a', 'd'))


def is_sufficient(crews, present, crew, chosen, width, goal):
    """Return directly whether some offers are sufficient."""
    more = tuple(sorted(crews + tuple(what for word, what in chosen if word == 'crew')))
    kept = tuple(what for word, what in chosen if word == 'keep')
    if goal == 'calm':
        return is_calm_directly(more, present, crew, width, kept)
    return any(dict(book)[present] == crew for book in books_directly(more, present, width, kept))


def least_directly(crews, present, crew, offers, width, goal):
    sets = [some for some in subsets(offers) if is_sufficient(crews, present, crew, some, width, goal)]
    return tuple(some for some in sets if not any(set(other) < set(some) for other in sets))


def random_offers(rnd, crews, most):
    """Return some offers for the crews."""
    people = people_in(crews)
    offers = []
    for _ in range(most):
        if rnd.random() < 0.4:
            offers.append(('keep', rnd.choice(people)))
        else:
            some = tuple(sorted(rnd.sample(people, rnd.randint(1, min(3, len(people))))))
            others = crews + tuple(what for word, what in offers if word == 'crew')
            if not any(set(some) <= set(other) or set(other) <= set(some) for other in others):
                offers.append(('crew', some))
    return tuple(sorted(set(offers)))


class TestLeastOffers(CrewTest):
    def test_example_of_the_document(self):
        self.assertEqual(least_offers(PAIRS, FIVE, MP, OFFERS, 1), ((('crew', ('p', 'q')),), (('keep', 'm'),)))

    def test_goals(self):
        self.assertEqual(least_offers(PAIRS, FIVE, MP, OFFERS, 1, goal='calm'), least_offers(PAIRS, FIVE, MP, OFFERS, 1))
        self.assertEqual(least_offers(PAIRS, FIVE, MP, OFFERS, 1, goal='booked'),
                         least_directly(PAIRS, FIVE, MP, OFFERS, 1, 'booked'))
        # This situation is calm, but not booked.
        offers = tuple(('keep', person) for person in 'pqrxy')
        self.assertEqual(least_offers(WIDE, ALL, BIG, offers, 1), ((),))
        self.assertEqual(least_offers(WIDE, ALL, BIG, offers, 1, goal='booked'),
                         ((('keep', 'p'), ('keep', 'q'), ('keep', 'y')),))
        self.assertEqual(least_offers(WIDE, ALL, BIG, offers[1:], 1, goal='booked'), ())
        self.assertEqual(least_offers(WIDE, ALL, BIG, (), 1, goal='booked'), ())

    def test_no_offers(self):
        for goal in ('calm', 'booked'):
            self.assertEqual(least_offers(PAIRS, FIVE, MN, (), 1, goal=goal), ((),))
            self.assertEqual(least_offers(PAIRS, FIVE, MP, (), 1, goal=goal), ())

    def test_nothing_needed(self):
        for goal in ('calm', 'booked'):
            self.assertEqual(least_offers(PAIRS, FIVE, MN, OFFERS, 1, goal=goal), ((),))
            self.assertEqual(least_offers(PAIRS, FIVE, MP, OFFERS, 2, goal=goal), ((),))

    def test_no_sufficient_set(self):
        offers = (('keep', 'a'), ('keep', 'c'))
        for goal in ('calm', 'booked'):
            self.assertEqual(least_offers(FOUR, people_in(FOUR), FOUR[0], offers, 1, goal=goal), ())
            self.assertEqual(least_offers(FOUR, people_in(FOUR), FOUR[0], offers, 0, goal=goal), ())

    def test_several_offers_together(self):
        offers = tuple(('keep', person) for person in people_in(FOUR))
        for goal in ('calm', 'booked'):
            self.assertEqual(least_offers(FOUR, people_in(FOUR), FOUR[0], offers, 0, goal=goal),
                             ((('keep', 'a'), ('keep', 'b')),))
            self.assertEqual(least_offers(FOUR, people_in(FOUR), FOUR[0], offers, 1, goal=goal),
                             ((('keep', 'a'), ('keep', 'b')),))

    def test_the_sets_ascend_whatever_their_sizes(self):
        crews = (('a', 'b'), ('a', 'e'), ('c', 'd', 'e'))
        offers = (('crew', ('a', 'c', 'd')), ('crew', ('b', 'd')), ('keep', 'a'), ('keep', 'b'))
        self.assertEqual(least_offers(crews, people_in(crews), ('a', 'b'), offers, 1),
                         ((('crew', ('b', 'd')), ('keep', 'b')), (('keep', 'a'),)))

    def test_a_kept_person_who_is_absent_has_no_effect(self):
        present = ('m', 'p', 'q', 'r')
        self.assertEqual(least_offers(PAIRS, present, MP, (('keep', 'm'), ('keep', 'n')), 1), ((('keep', 'm'),),))
        self.assertEqual(least_offers(PAIRS, present, MP, (('keep', 'n'),), 1), ())
        self.assertEqual(least_offers(PAIRS, present, MP, (('keep', 'n'),), 2), ((),))
        self.assertEqual(least_offers(PAIRS, present, MP, (('keep', 'n'),), 1, goal='booked'), ())

    def test_crews_can_hurt(self):
        people = people_in(STAR)
        self.assertIs(is_calm(STAR, people, ('a', 'd'), 1), True)
        self.assertIs(is_calm(tuple(sorted(STAR + (('b', 'c'),))), people, ('a', 'd'), 1), False)
        self.assertEqual(least_offers(STAR, people, ('a', 'd'), (('crew', ('b', 'c')),), 1), ((),))
        found = 0
        rnd = Random(101)
        for _ in range(300):
            crews = random_crews(rnd, 'abcd', 4)
            offers = random_offers(rnd, crews, 4)
            for least in least_offers(crews, people_in(crews), crews[0], offers, 1):
                for offer in offers:
                    more = tuple(sorted(set(least) | {offer}))
                    found += not is_sufficient(crews, people_in(crews), crews[0], more, 1, 'calm')
        self.assertGreater(found, 0)

    def test_against_a_direct_search(self):
        rnd = Random(102)
        kinds = []
        for _ in range(250):
            crews = random_crews(rnd, 'abcd', 4)
            people = people_in(crews)
            offers = random_offers(rnd, crews, 6)
            self.assertEqual(lets_offers(crews, offers), len(offers))
            crew = rnd.choice(crews)
            present = tuple(person for person in people if person in crew or rnd.random() < 0.95)
            width = rnd.choice((0, 0, 1))
            for goal in ('calm', 'booked'):
                found = least_offers(crews, present, crew, offers, width, goal=goal)
                self.assertEqual(found, least_directly(crews, present, crew, offers, width, goal))
                self.assertEqual([type(part) for part in found] + [type(found)], [tuple] * (len(found) + 1))
                kinds += [len(some) for some in found] or [None]
        self.assertLessEqual({None, 0, 1, 2}, set(kinds))

    def test_sets_are_sufficient_by_the_other_modules(self):
        rnd = Random(103)
        for _ in range(60):
            crews = random_crews(rnd, 'abcdefgh', 8)
            people, crew = people_in(crews), rnd.choice(crews)
            offers = random_offers(rnd, crews, 6)
            for goal, holds in (('calm', is_calm), ('booked', is_booked)):
                for some in least_offers(crews, people, crew, offers, 1, goal=goal):
                    more = tuple(sorted(crews + tuple(what for word, what in some if word == 'crew')))
                    kept = tuple(what for word, what in some if word == 'keep')
                    self.assertIs(holds(more, people, crew, 1, kept=kept), True)

    def test_six_offers_of_people_who_are_needed(self):
        crews = (('a', 'b', 'c', 'd', 'e', 'f'), ('g', 'h'))
        offers = tuple(('keep', person) for person in 'abcdef')
        self.assertEqual(least_offers(crews, people_in(crews), crews[0], offers, 1), (offers,))
        self.assertEqual(least_offers(crews, people_in(crews), crews[0], offers[1:], 1), ())

    def test_arguments(self):
        self.assertEqual(least_offers(crews=PAIRS, present=FIVE, crew=MP, offers=OFFERS, width=1, goal='calm'),
                         ((('crew', ('p', 'q')),), (('keep', 'm'),)))
        self.by_name_only(least_offers, PAIRS, FIVE, MP, OFFERS, 1, 'calm')

    def test_unknown_people(self):
        self.unknown('x', least_offers, PAIRS, ('m', 'x', 'y'), ('w',), OFFERS, 1)
        self.unknown('w', least_offers, PAIRS, FIVE, ('m', 'w'), (), 1, goal='booked')


if __name__ == '__main__':
    unittest.main()
