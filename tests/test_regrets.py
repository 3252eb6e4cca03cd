import unittest
from itertools import islice
from random import Random

from crewbook.calm import is_calm
from crewbook.careless import is_careless
from crewbook.losses import answers, loss_word
from crewbook.regrets import longer_ways, regrets
from tests.samples import (ALL, BIG, DEEP, FIVE, FOUR, LONG, LONGER, PAIRS, TWO, WIDE, CrewTest, all_crews, people_in,
                           random_crews, regrets_directly, situations_in, subsets, without_one)

ABC = ('a', 'b', 'c')
AB, AC = TWO
MORE = tuple(sorted(WIDE + (('a', 'p', 'r', 'x', 'y'),)))


class TestRegrets(CrewTest):
    def test_examples_of_the_document(self):
        self.assertEqual(list(regrets(PAIRS, FIVE, ('m', 'n'), 1)), [(('n', ('m', 'p')),)])
        self.assertEqual(list(regrets(WIDE, ALL, BIG, 1)), [])
        self.assertEqual(list(regrets(MORE, ALL, BIG, 1)), [(('q', ('a', 'r', 's', 'x')),), (('s', ('a', 'p', 'q', 'y')),)])

    def test_a_situation_that_is_not_calm(self):
        self.assertEqual(list(regrets(PAIRS, FIVE, ('m', 'p'), 1)), [])
        self.assertEqual(list(regrets(FOUR, people_in(FOUR), FOUR[0], 1)), [])

    def test_a_situation_without_a_way_to_a_regret(self):
        self.assertEqual(list(regrets(TWO, ABC, AB, 1)), [])
        self.assertEqual(list(regrets(PAIRS, FIVE, ('m', 'n'), 2)), [])
        self.assertEqual(list(regrets((('a',),), ('a',), ('a',), 0)), [])

    def test_nobody_can_be_lost(self):
        for present, crew in situations_in(PAIRS):
            self.assertEqual(list(regrets(PAIRS, present, crew, 1, kept=present)), [])

    def test_several_ways_of_one_step(self):
        self.assertEqual(list(regrets(WIDE, ALL, BIG, 2)), [
            (('p', ('a', 'c', 'q')),), (('q', ('a', 'c', 'p')),), (('r', ('a', 'c', 's')),), (('s', ('a', 'c', 'r')),),
            (('x', ('a', 'c', 'r')),), (('x', ('a', 'c', 's')),), (('y', ('a', 'c', 'p')),), (('y', ('a', 'c', 'q')),)])

    def test_several_ways_of_two_and_of_three_steps(self):
        self.assertEqual(list(regrets(LONG, people_in(LONG), ('b', 'f'), 1)), [
            (('b', ('d', 'f')), ('f', ('c', 'd'))), (('b', ('e', 'f')), ('f', ('a', 'e'))),
            (('f', ('b', 'd')), ('b', ('c', 'd'))), (('f', ('b', 'e')), ('b', ('a', 'e')))])
        self.assertEqual(list(regrets(LONGER, people_in(LONGER), ('b', 'g'), 1, kept=('f',))), [
            (('b', ('a', 'g')), ('g', ('a', 'd')), ('a', ('c', 'd'))),
            (('b', ('e', 'g')), ('g', ('d', 'e')), ('e', ('c', 'd'))),
            (('g', ('a', 'b')), ('b', ('a', 'd')), ('a', ('c', 'd')))])
        self.assertEqual(regrets_directly(LONG, people_in(LONG), ('b', 'f'), 1),
                         list(regrets(LONG, people_in(LONG), ('b', 'f'), 1)))
        self.assertEqual(regrets_directly(LONGER, people_in(LONGER), ('b', 'g'), 1, ('f',)),
                         list(regrets(LONGER, people_in(LONGER), ('b', 'g'), 1, kept=('f',))))

    def test_longer_ways_have_none_where_the_crew_stays(self):
        # The loss of somebody who is in no crew of a way can be left out of it, so no shortest way has a None.
        moves = {('state', ('m',)): {'a': ['next'], 'm': [('then', ('b',))]}}
        steps = {('state', ('m',)): 2, 'next': 1, ('then', ('b',)): 1}
        self.assertEqual(longer_ways(moves, steps, (), ('state', ('m',))),
                         [((('a', None),), 'next'), ((('m', ('b',)),), ('then', ('b',)))])

    def test_the_ways_ascend(self):
        rnd = Random(71)
        numbers = []
        for crews in [PAIRS, LONG, LONGER, DEEP] + [random_crews(rnd, 'abcdef', 9) for _ in range(60)]:
            for crew in crews:
                ways = list(islice(regrets(crews, people_in(crews), crew, 1), 200))
                self.assertEqual(ways, sorted(ways))
                self.assertEqual(len(set(ways)), len(ways))
                numbers.append(len(ways))
        self.assertGreater(max(numbers), 4)

    def test_against_a_direct_search(self):
        numbers = []
        for crews in all_crews('abcd', 6):
            for present, crew in situations_in(crews):
                for kept in ((), people_in(crews)[:1]):
                    for width in (0, 1, 2):
                        found = list(regrets(crews, present, crew, width, kept=kept))
                        self.assertEqual(found, regrets_directly(crews, present, crew, width, kept))
                        numbers.append(len(found))
        self.assertLessEqual({0, 1}, set(numbers))

    def test_against_a_direct_search_in_larger_crews(self):
        rnd = Random(72)
        lengths = []
        for crews in (LONG, LONGER, DEEP, PAIRS) + tuple(random_crews(rnd, 'abcdef', 9) for _ in range(80)):
            for _ in range(40):
                kept = tuple(person for person in people_in(crews) if rnd.random() < 0.2)
                width = rnd.choice((1, 1, 2))
                present, crew = rnd.choice(situations_in(crews))
                found = list(islice(regrets(crews, present, crew, width, kept=kept), 500))
                if len(present) < 6 or found:
                    self.assertEqual(found, regrets_directly(crews, present, crew, width, kept)[:500])
                lengths += [len(way) for way in found]
        self.assertEqual(set(lengths), {1, 2})

    def test_ways_by_the_words_of_the_document(self):
        rnd = Random(73)
        for _ in range(60):
            crews = random_crews(rnd, 'abcdefg', 10)
            kept = tuple(rnd.sample(people_in(crews), rnd.choice((0, 0, 1))))
            for crew in crews[:3]:
                ways = list(islice(regrets(crews, people_in(crews), crew, 1, kept=kept), 20))
                self.assertEqual(len({len(way) for way in ways}), 1 if ways else 0)
                for way in ways:
                    self.follow(crews, people_in(crews), crew, way, kept)

    def follow(self, crews, present, crew, way, kept):
        self.assertIs(type(way), tuple)
        for lost, answer in way:
            self.assertIs(is_calm(crews, present, crew, 1, kept=kept), True)
            self.assertIn(lost, present)
            self.assertNotIn(lost, kept)
            self.assertIn(loss_word(crews, present, crew, lost, 1), ('stays', 'open'))
            self.assertIs(answer is None, lost not in crew)
            if answer is not None:
                self.assertIn(answer, answers(crews, present, crew, lost, 1))
                crew = answer
            present = without_one(present, lost)
        self.assertIsNotNone(way[-1][1])
        self.assertIs(is_calm(crews, present, crew, 1, kept=kept), False)

    def test_calm_situations_are_careless_if_they_have_no_way_to_a_regret(self):
        rnd = Random(74)
        pairs = []
        for crews in all_crews(ABC, 3) + [PAIRS, DEEP, LONG] + [random_crews(rnd, 'abcde', 8) for _ in range(40)]:
            for present, crew in situations_in(crews):
                width, kept = rnd.choice((0, 1, 1, 2)), tuple(rnd.sample(people_in(crews), rnd.choice((0, 0, 1))))
                calm = is_calm(crews, present, crew, width, kept=kept)
                has_way = bool(list(islice(regrets(crews, present, crew, width, kept=kept), 1)))
                self.assertIs(is_careless(crews, present, crew, width, kept=kept), calm and not has_way)
                pairs.append((calm, has_way))
        self.assertEqual(set(pairs), {(True, True), (True, False), (False, False)})

    def test_it_is_a_generator_that_yields_its_results_one_by_one(self):
        found = regrets(MORE, ALL, BIG, 1)
        self.assertIs(iter(found), found)
        self.assertEqual([next(found), next(found), next(found, None)],
                         [(('q', ('a', 'r', 's', 'x')),), (('s', ('a', 'p', 'q', 'y')),), None])

    def test_arguments(self):
        self.assertEqual(list(regrets(crews=PAIRS, present=FIVE, crew=('m', 'n'), width=1, kept=())),
                         [(('n', ('m', 'p')),)])
        self.by_name_only(regrets, PAIRS, FIVE, ('m', 'n'), 1, ())

    def test_kept(self):
        self.assertEqual(list(regrets(PAIRS, FIVE, ('m', 'n'), 1, kept=('n',))),
                         regrets_directly(PAIRS, FIVE, ('m', 'n'), 1, ('n',)))
        self.assertEqual(list(regrets(PAIRS, FIVE, ('m', 'n'), 1, kept=('m', 'n'))), [])
        crews = tuple(sorted(PAIRS + (('a', 'b'),)))
        self.assertEqual(list(regrets(crews, FIVE, ('m', 'n'), 1, kept=('a', 'b'))), [(('n', ('m', 'p')),)])

    def test_unknown_people_at_the_first_result(self):
        for person, present, crew, kept in (('x', ('m', 'x', 'y'), ('w',), ('z',)), ('w', FIVE, ('m', 'w'), ('z',)),
                                            ('y', FIVE, ('m', 'n'), ('m', 'y', 'z')), ('y', FIVE, ('m', 'p'), ('y',))):
            self.unknown(person, lambda *arguments: list(regrets(*arguments, kept=kept)), PAIRS, present, crew, 1)

    def test_subsets_of_present(self):
        for present in subsets(FIVE):
            for crew in PAIRS:
                if set(crew) <= set(present):
                    self.assertEqual(list(regrets(PAIRS, present, crew, 1)), regrets_directly(PAIRS, present, crew, 1))


if __name__ == '__main__':
    unittest.main()
