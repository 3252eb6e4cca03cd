import unittest
from itertools import permutations
from random import Random

from crewbook.books import booked_crews
from crewbook.calmpapers import calm_paper
from crewbook.goodcrews import is_good
from crewbook.kinds import is_crews
from crewbook.losses import crews_left
from crewbook.searching import crews_with, renamed, without
from crewbook.steadiness import is_steady
from tests.samples import (ALL, BIG, FIVE, ODD, PAIRS, SIXTY, TWO, WIDE, CrewTest, all_crews, is_careless_directly, people_in,
                           random_crews, subsets)


class TestCrewsWith(CrewTest):
    def test_no_conditions(self):
        for crews in (PAIRS, WIDE, TWO):
            self.assertEqual(crews_with(crews), crews)
            self.assertEqual(crews_with(crews, size=None, holds=(), lacks=()), crews)

    def test_size(self):
        self.assertEqual(crews_with(WIDE, size=3), WIDE[:4])
        self.assertEqual(crews_with(WIDE, size=4), WIDE[4:6])
        self.assertEqual(crews_with(WIDE, size=6), (BIG,))
        for size in (0, 1, 2, 5, 7, SIXTY):
            self.assertEqual(crews_with(WIDE, size=size), ())
        self.assertEqual(crews_with(TWO, size=0), ())

    def test_holds_and_lacks(self):
        self.assertEqual(crews_with(PAIRS, holds=('m',)), PAIRS[:3])
        self.assertEqual(crews_with(PAIRS, holds=('m', 'q')), (('m', 'q'),))
        self.assertEqual(crews_with(PAIRS, holds=('p', 'q')), ())
        self.assertEqual(crews_with(PAIRS, lacks=('m',)), (('n', 'q'), ('q', 'r')))
        self.assertEqual(crews_with(PAIRS, lacks=('m', 'q')), ())
        self.assertEqual(crews_with(PAIRS, holds=('q',), lacks=('m', 'n')), (('q', 'r'),))
        self.assertEqual(crews_with(PAIRS, holds=('q',), lacks=('q',)), ())
        self.assertEqual(crews_with(WIDE, size=4, holds=('a',), lacks=('p',)), (('a', 'r', 's', 'x'),))

    def test_against_the_definition(self):
        for crews in (PAIRS, WIDE, (('a',), ('b', 'c'), ('b', 'd', 'e'))):
            some = subsets(people_in(crews)[:4])
            for holds in some:
                for lacks in some:
                    for size in (None, 0, 1, 2, 3, 4):
                        self.assertEqual(crews_with(crews, size=size, holds=holds, lacks=lacks), tuple(
                            crew for crew in crews if size in (None, len(crew)) and set(holds) <= set(crew)
                            and not set(lacks) & set(crew)))

    def test_unknown_people(self):
        self.unknown('x', crews_with, PAIRS, holds=('m', 'x', 'y'), lacks=('a',))
        self.unknown('a', crews_with, PAIRS, holds=('m', 'q'), lacks=('a', 'b'))
        self.unknown('z', crews_with, PAIRS, size=0, lacks=('z',))

    def test_arguments(self):
        self.assertEqual(crews_with(crews=PAIRS, size=2, holds=('r',), lacks=('m',)), (('q', 'r'),))
        self.by_name_only(crews_with, PAIRS, 2)
        self.assertIs(type(crews_with(PAIRS)), tuple)


class TestWithout(CrewTest):
    def test_example_of_the_document(self):
        self.assertEqual(without(PAIRS, 'q', 'm'), ())

    def test_any_order_and_several_times(self):
        for people in (('m',), ('m', 'm'), ('m', 'm', 'm')):
            self.assertEqual(without(PAIRS, *people), (('n', 'q'), ('q', 'r')))
        for people in permutations(('n', 'p', 'n', 'r')):
            self.assertEqual(without(PAIRS, *people), (('m', 'q'),))

    def test_nobody(self):
        self.assertEqual(without(PAIRS), PAIRS)
        self.assertEqual(without(crews=WIDE), WIDE)

    def test_against_crews_left(self):
        for crews, people in ((PAIRS, FIVE), (WIDE, ALL)):
            for absent in subsets(people):
                present = tuple(person for person in people if person not in absent)
                self.assertEqual(without(crews, *absent[::-1]), crews_left(crews, present))
                self.assertEqual(without(crews, *absent), crews_with(crews, lacks=absent))

    def test_unknown_people(self):
        self.unknown('z', without, PAIRS, 'm', 'z', 'a')
        self.unknown('a', without, PAIRS, 'a', 'q', 'z')
        self.unknown('z', without, PAIRS, 'q', 'm', 'z')
        self.unknown('crews', without, PAIRS, 'crews')


class TestRenamed(CrewTest):
    def test_example_of_the_document(self):
        self.assertEqual(renamed((('a', 'b'), ('a', 'c')), a='z', b='a'), (('a', 'z'), ('c', 'z')))

    def test_others_keep_their_names(self):
        self.assertEqual(renamed(PAIRS), PAIRS)
        self.assertEqual(renamed(crews=PAIRS), PAIRS)
        self.assertEqual(renamed(crews=TWO, a='b', b='a'), (('a', 'b'), ('b', 'c')))
        self.assertEqual(renamed(TWO, c='zzzzzzzz'), (('a', 'b'), ('a', 'zzzzzzzz')))

    def test_the_same_name(self):
        self.assertEqual(renamed(TWO, a='a', b='b'), TWO)

    def test_two_people_swap_their_names(self):
        self.assertEqual(renamed(PAIRS, m='q', q='m'), (('m', 'n'), ('m', 'q'), ('m', 'r'), ('n', 'q'), ('p', 'q')))
        self.assertEqual(renamed(TWO, b='c', c='b'), TWO)

    def test_all_people_change_their_names_in_a_ring(self):
        self.assertEqual(renamed(TWO, a='b', b='c', c='a'), (('a', 'b'), ('b', 'c')))

    def test_the_result_ascends(self):
        crews = renamed(WIDE, a='y', y='a', p='zz', x='b')
        self.assertTrue(is_crews(crews))
        self.assertEqual(type(crews), tuple)

    def test_people_who_are_called_like_other_parameters(self):
        self.assertEqual(renamed((('names', 'self'),), names='people', self='size'), (('people', 'size'),))
        with self.assertRaises(TypeError):
            renamed((('crews',),), **{'crews': 'a'})

    def test_unknown_people(self):
        self.unknown('z', renamed, TWO, a='b', z='c', y='d')
        self.unknown('y', renamed, TWO, y='c', z='d')
        self.unknown('', renamed, TWO, **{'a': 'd', '': 'e'})
        self.unknown('A b', renamed, TWO, **{'A b': 'e'})

    def test_an_unknown_person_comes_first(self):
        self.unknown('z', renamed, TWO, a='A', z='b')
        self.unknown('z', renamed, TWO, a='b', z=None)
        self.unknown('z', renamed, TWO, z=1, y='Y')

    def test_a_new_name_that_is_no_name(self):
        for name in ODD:
            self.refuse(renamed, 'name', -1, TWO, a=name)
            self.refuse(renamed, 'name', -1, TWO, b='d', a=name)
        self.refuse(renamed, 'name', -1, TWO, a=('a',))
        self.refuse(renamed, 'name', -1, TWO, a=1)

    def test_a_name_that_two_people_would_have(self):
        self.refuse(renamed, 'twice', -1, TWO, a='b')
        self.refuse(renamed, 'twice', -1, TWO, a='d', b='d')
        self.refuse(renamed, 'twice', -1, TWO, a='b', b='c')
        self.refuse(renamed, 'twice', -1, PAIRS, m='q', n='m')

    def test_name_comes_before_twice(self):
        self.refuse(renamed, 'name', -1, TWO, a='b', c='C')
        self.refuse(renamed, 'name', -1, TWO, a='', b='')
        self.refuse(renamed, 'name', -1, TWO, a='abcdefghi', b='c')

    def test_the_names_are_renamed_back(self):
        rnd = Random(31)
        for _ in range(200):
            crews = random_crews(rnd, 'abcde', 6)
            people = people_in(crews)
            names = dict(zip(people, rnd.sample(people + ('x', 'y', 'zz'), len(people))))
            changed = renamed(crews, **names)
            self.assertTrue(is_crews(changed))
            self.assertEqual(renamed(changed, **{name: person for person, name in names.items()}), crews)


class TestRenamedSituations(CrewTest):
    """A question about crews has the same answer with other names."""

    def test_good(self):
        for crews in all_crews(('a', 'b', 'c', 'd'), 3):
            people = people_in(crews)
            names = dict(zip(people, ('d', 'x', 'a', 'b')))
            self.assertIs(is_good(renamed(crews, **names)), is_good(crews))

    def test_calm_careless_booked_and_steady(self):
        rnd = Random(32)
        for _ in range(60):
            crews = random_crews(rnd, 'abcd', 5)
            people = people_in(crews)
            names = dict(zip(people, rnd.sample(people + ('x',), len(people))))
            others = renamed(crews, **names)
            for width in (0, 1, 2):
                booked = booked_crews(crews, people, width)
                self.assertEqual(booked_crews(others, people_in(others), width),
                                 tuple(sorted(self.in_other_names(crew, names) for crew in booked)))
                for crew in crews:
                    other = self.in_other_names(crew, names)
                    for question in (is_careless_directly, is_steady, lambda *situation: calm_paper(*situation)[0]):
                        self.assertEqual(question(others, people_in(others), other, width),
                                         question(crews, people, crew, width))

    def in_other_names(self, people, names):
        return tuple(sorted(names[person] for person in people))


if __name__ == '__main__':
    unittest.main()
