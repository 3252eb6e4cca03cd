import unittest
from random import Random

from crewbook.books import is_booked
from crewbook.errors import InvalidPaper
from crewbook.refusalchecker import lets_refusal
from crewbook.refusals import refusal_paper
from tests.samples import (DEEP, FIVE, FOUR, ODD, PAIRS, SIXTY, SPLIT, TWO, CrewTest, changed, left_in, nested, part_at,
                           people_in, places_in, random_crews, with_part)

ABCD = ('a', 'b', 'c', 'd')
AB, CD = FOUR
BCD = ('b', 'c', 'd')
ONE = ((), ('none', BCD))
ABCDE = ('a', 'b', 'c', 'd', 'e')
BDE = ('b', 'd', 'e')
THREE = ((), ('split', ('a', 'c', 'd', 'e'), (
    (('a', 'd'), ((), ('none', ('a', 'c', 'e')))),
    (('c', 'e'), ((), ('none', ('a', 'd', 'e')))))))
ABCDEF = ('a', 'b', 'c', 'd', 'e', 'f')
ABDE = ('a', 'b', 'd', 'e')
INNER = ((), ('split', ('a', 'c', 'd', 'e', 'f'), (
    (('a', 'c', 'd'), ((), ('none', ('a', 'c', 'e', 'f')))),
    (('a', 'e', 'f'), ((), ('none', ('a', 'c', 'd', 'f')))))))
FIFTH = ((), ('none', ('a', 'c', 'e', 'f')))
STEP = (('a', 'b', 'c', 'd', 'f'), ('a', 'c', 'd'))
NODES = ((STEP,), ('split', ('a', 'b', 'c', 'e', 'f'), ((('a', 'e', 'f'), INNER), (('b', 'c', 'e'), FIFTH))))
# The paths to the nodes of the tree NODES in preorder.
PATHS = ((), (1, 2, 0, 1), (1, 2, 0, 1, 1, 2, 0, 1), (1, 2, 0, 1, 1, 2, 1, 1), (1, 2, 1, 1))


class RefusalTest(CrewTest):
    def refuse_four(self, word, at, thing, **named):
        self.refuse(lets_refusal, word, at, FOUR, ABCD, AB, 1, thing, **named)

    def refuse_three(self, word, at, thing, **named):
        self.refuse(lets_refusal, word, at, SPLIT, ABCDE, BDE, 1, thing, **named)

    def refuse_nodes(self, word, at, thing):
        self.refuse(lets_refusal, word, at, DEEP, ABCDEF, ABDE, 1, thing)


class TestTrees(RefusalTest):
    def test_example_of_the_document(self):
        self.assertEqual(lets_refusal(FOUR, ABCD, AB, 1, ONE), 1)

    def test_numbers_of_nodes(self):
        self.assertEqual(lets_refusal(SPLIT, ABCDE, BDE, 1, THREE), 3)
        self.assertEqual(lets_refusal(DEEP, ABCDEF, ABDE, 1, NODES), 5)
        self.assertIs(type(lets_refusal(DEEP, ABCDEF, ABDE, 1, NODES)), int)

    def test_arguments(self):
        self.assertEqual(lets_refusal(crews=FOUR, present=ABCD, crew=AB, width=1, thing=ONE, kept=()), 1)
        self.by_name_only(lets_refusal, FOUR, ABCD, AB, 1, ONE, ())

    def test_width_zero(self):
        self.assertEqual(lets_refusal(TWO, ('a', 'b', 'c'), ('a', 'b'), 0, ((), ('none', ('a', 'c')))), 1)
        self.refuse(lets_refusal, 'none', 0, TWO, ('a', 'b', 'c'), ('a', 'b'), 1, ((), ('none', ('a', 'c'))))

    def test_forced_steps(self):
        # Only one crew is left in the smaller sets, and the largest one of them follows from its only page.
        self.assertEqual(lets_refusal(FOUR, ABCD, AB, 1, (((('a', 'b', 'c'), AB),), ('none', BCD))), 1)
        self.assertEqual(lets_refusal(FOUR, ABCD, AB, 1, (((CD, CD), (AB, AB)), ('none', BCD))), 1)
        steps = ((('a', 'b', 'c'), AB), (('a', 'b', 'd'), AB), (AB, AB), (('a', 'c', 'd'), CD))
        self.refuse_four('forced', (0, 3), (steps, ('none', BCD)))
        self.assertEqual(lets_refusal(FOUR, ABCD, AB, 1, (steps[:3], ('none', BCD))), 1)

    def test_a_step_at_a_smaller_set_may_be_too_late(self):
        # The page of CD is known first, so nothing is wrong with it, but the set above it has no crew.
        self.refuse_four('end', 0, (((CD, CD),), ('none', CD)))
        self.assertEqual(lets_refusal(FOUR, ABCD, AB, 1, (((CD, CD),), ('none', ('a', 'c', 'd')))), 1)

    def test_a_booked_situation_has_no_tree(self):
        for thing in (ONE, THREE, NODES, ((), ('none', FIVE)), ((), ('none', ('m', 'p', 'q', 'r')))):
            with self.assertRaises(InvalidPaper):
                lets_refusal(PAIRS, FIVE, ('m', 'n'), 1, thing)


class TestShape(RefusalTest):
    def test_odd_values(self):
        for thing in ODD + ((), nested(30), None, 'none', ('none', BCD), [(), ('none', BCD)], ((),), ((), (), ()),
                            ((), None), ((), ('none',)), ((), ('none', BCD, ())), ((), ['none', BCD]),
                            ((), ('none', list(BCD))), ((), ('none', ('A',))), ((), ('none', (1,))), ((), ('none', None)),
                            ((), ('some', BCD)), ((), ('split', BCD)), ((), (True, BCD)), ((), (BCD, 'none')),
                            ([], ('none', BCD)), (None, ('none', BCD)), (('a',), ('none', BCD)),
                            (((BCD,),), ('none', BCD)), (((BCD, None),), ('none', BCD)), (((BCD, 'cd'),), ('none', BCD)),
                            (((BCD, CD, ()),), ('none', BCD)), (([BCD, CD],), ('none', BCD)),
                            (((BCD, (CD,)),), ('none', BCD)), (((BCD, (True,)),), ('none', BCD))):
            self.refuse_four('shape', -1, thing)

    def test_splits(self):
        for branches in (None, [], 'ab', AB, ((AB,),), ((AB, ONE, ()),), ([AB, ONE],), ((['a'], ONE),), (('ab', ONE),),
                         ((AB, None),), ((AB, ()),), ((AB, BCD),), ((AB, ONE), (CD, nested(25))), ((AB, ONE), ONE)):
            self.refuse_four('shape', -1, ((), ('split', BCD, branches)))
        self.refuse_four('shape', -1, ((), ('split', BCD, (), ())))
        self.refuse_four('shape', -1, ((), ('split', ['b'], ())))

    def test_the_shape_of_a_last_node_comes_before_all_else(self):
        for path in PATHS[1:]:
            for odd in ODD + ((), ((), ('none', None)), (ONE, ONE)):
                self.refuse_nodes('shape', -1, with_part(NODES, path, odd))
        self.refuse_four('shape', -1, (((('zz',), ()),), ('split', (), ((AB, ONE), (AB, None)))))

    def test_every_part_has_a_shape(self):
        for path in places_in(NODES):
            for odd in (True, None, -SIXTY, 'A', '', [ONE], ((('a',),),)):
                self.refuse_nodes('shape', -1, with_part(NODES, path, odd))

    def test_right_shapes(self):
        self.refuse_four('end', 0, ((), ('none', ())))
        self.refuse_four('end', 0, ((), ('split', (), ())))
        self.refuse_four('set', (0, 0), ((((), ()),), ('none', BCD)))
        self.refuse_four('end', 0, ((), ('split', (), ((('zz',), ((), ('none', ()))),))))

    def test_a_deep_tree(self):
        tree = ONE
        for _ in range(2000):
            tree = ((), ('split', BCD, ((AB, tree),)))
        self.refuse_four('split', 0, tree)


class TestWords(RefusalTest):
    def test_set(self):
        for people in ((), ('a',), ('a', 'c'), ('c', 'b', 'd'), ('b', 'c', 'd', 'd'), ('b', 'c', 'd', 'e'), ('zz',),
                       ABCD):
            self.refuse_four('set', (0, 0), (((people, CD),), ('none', BCD)))
            self.refuse_four('set', (0, 1), (((CD, CD), (people, CD)), ('none', BCD)))

    def test_set_with_a_page_from_a_step_before(self):
        self.refuse_four('set', (0, 1), (((CD, CD), (CD, CD)), ('none', BCD)))
        self.refuse_four('set', (0, 2), (((AB, AB), (CD, CD), (AB, AB)), ('none', BCD)))

    def test_set_with_a_page_from_a_split_or_a_step_above(self):
        for n, page in ((1, (('a', 'b', 'c', 'e', 'f'), ('a', 'e', 'f'))), (1, STEP), (2, STEP), (4, STEP),
                        (3, (('a', 'c', 'd', 'e', 'f'), ('a', 'e', 'f'))), (2, (ABCDEF, ABDE))):
            self.refuse_nodes('set', (n, 0), with_part(NODES, PATHS[n] + (0,), (page,)))

    def test_a_page_of_another_branch_is_not_known(self):
        page = (('a', 'c', 'd', 'e', 'f'), ('a', 'c', 'd'))
        self.refuse_nodes('forced', (4, 0), with_part(NODES, PATHS[4] + (0,), (page,)))
        self.refuse_nodes('none', 4, with_part(NODES, PATHS[4] + (1, 1), ('a', 'c', 'd', 'e', 'f')))

    def test_forced(self):
        for crew in ((), ('a', 'b'), ('b', 'c'), ('d', 'c'), ('zz',), ('c', 'd', 'd')):
            self.refuse_four('forced', (0, 0), (((CD, crew),), ('none', BCD)))
        # None and several crews are allowed.
        self.refuse_four('forced', (0, 0), (((BCD, CD),), ('none', BCD)))
        self.refuse_three('forced', (0, 0), (((('a', 'c', 'd', 'e'), ('a', 'd')),), THREE[1]))

    def test_set_comes_before_forced_and_step_before_step(self):
        self.refuse_four('set', (0, 0), (((('a',), AB), (CD, AB)), ('none', ())))
        self.refuse_four('forced', (0, 0), (((CD, AB), ((), AB)), ('none', ())))
        self.refuse_four('set', (0, 1), (((CD, CD), ((), AB)), ('none', ())))

    def test_end(self):
        for people in ((), ('b', 'c'), ('d', 'c', 'b'), ABCD, ('zz',)):
            self.refuse_four('end', 0, ((), ('none', people)))
            self.refuse_four('end', 0, ((), ('split', people, ())))
        self.refuse_four('end', 0, (((CD, CD),), ('none', CD)))
        for n, people in ((1, ('a', 'b', 'c', 'e', 'f')), (1, ABCDEF), (1, STEP[0]), (3, ('a', 'c', 'd', 'e', 'f'))):
            self.refuse_nodes('end', n, with_part(NODES, PATHS[n] + (1, 1), people))

    def test_none(self):
        self.refuse_four('none', 0, ((), ('none', CD)))
        self.refuse_four('none', 0, ((), ('none', ('a', 'b', 'c'))))
        self.refuse_three('none', 0, ((), ('none', ('a', 'c', 'd', 'e'))))

    def test_split_of_fewer_than_two_crews(self):
        self.refuse_four('split', 0, ((), ('split', BCD, ())))
        self.refuse_four('split', 0, ((), ('split', CD, ((CD, ONE),))))
        self.refuse_four('split', 0, ((), ('split', CD, ())))

    def test_split_with_other_branches(self):
        first, second = THREE[1][2]
        people = THREE[1][1]
        more = (BDE, ((), ('none', ())))
        for branches in ((), (first,), (second,), (second, first), (first, first, second), (first, second, second),
                         (first, second, more), (more, first), (first, more), (first, more, second),
                         (first, ((), second[1])), (first, (('c', 'zz'), second[1])), (first, (('e', 'c'), second[1]))):
            self.refuse_three('split', 0, ((), ('split', people, branches)))

    def test_split_comes_before_what_is_wrong_in_its_branches(self):
        wrong = (((('zz',), ()),), ('none', ()))
        self.refuse_three('split', 0, ((), ('split', ('a', 'c', 'd', 'e'), ((('c', 'e'), wrong), (('a', 'd'), wrong)))))

    def test_node_by_node_in_preorder(self):
        wrong = (((('zz',), ()),), ('none', ()))
        for n in range(5):
            self.refuse_nodes('set', (n, 0), with_part(NODES, PATHS[n], wrong))
            self.refuse_nodes('end', n, with_part(NODES, PATHS[n] + (1,), ('none', ())))
        both = with_part(with_part(NODES, PATHS[4], wrong), PATHS[3] + (1, 1), ())
        self.refuse_nodes('end', 3, both)
        self.refuse_nodes('split', 1, with_part(both, PATHS[1] + (1, 2, 0, 0), ()))
        self.refuse_nodes('set', (1, 0), with_part(with_part(both, PATHS[1] + (1, 2, 0, 0), ()), PATHS[1] + (0,), wrong[0]))
        self.refuse_nodes('forced', (0, 0), with_part(both, (0, 0, 1), ('a', 'c')))

    def test_a_known_page_does_not_restrict_larger_sets(self):
        tree = (((CD, CD),), ('none', ('a', 'c', 'd')))
        self.assertEqual(lets_refusal(FOUR, ABCD, AB, 1, tree), 1)
        self.refuse(lets_refusal, 'none', 0, FOUR, ABCD, AB, 2, tree)


class TestKept(RefusalTest):
    def test_sets_without_a_kept_person_are_not_relevant(self):
        self.assertEqual(lets_refusal(FOUR, ABCD, AB, 1, ONE, kept=('b',)), 1)
        self.refuse_four('end', 0, ONE, kept=('a',))
        self.refuse_four('end', 0, ONE, kept=('a', 'd'))
        self.refuse_four('set', (0, 0), (((CD, CD),), ('none', BCD)), kept=('b',))
        self.refuse_three('end', 1, THREE, kept=('d', 'e'))
        self.refuse_three('end', 2, THREE, kept=('c',))

    def test_kept_people_who_are_absent_have_no_effect(self):
        crews = FOUR + (('e',),)
        self.assertEqual(lets_refusal(crews, ABCD, AB, 1, ONE, kept=('e',)), 1)
        self.assertEqual(lets_refusal(crews, ABCD, AB, 1, ONE, kept=('c', 'e')), 1)

    def test_unknown_people_come_first(self):
        for thing in (None, ONE):
            self.unknown('x', lets_refusal, FOUR, ('a', 'x', 'y'), ('w',), 1, thing, kept=('z',))
            self.unknown('w', lets_refusal, FOUR, ABCD, ('a', 'w'), 1, thing, kept=('z',))
            self.unknown('y', lets_refusal, FOUR, ABCD, AB, 1, thing, kept=('a', 'y', 'z'))


class TestTruth(RefusalTest):
    def test_changed_trees_that_are_accepted_are_true(self):
        rnd = Random(13)
        results = []
        for _ in range(3000):
            crews, present, crew, tree = rnd.choice((
                (DEEP, ABCDEF, ABDE, NODES), (SPLIT, ABCDE, BDE, THREE), (FOUR, ABCD, AB, ONE),
                (DEEP, ABCDEF, ('b', 'c', 'e'), NODES), (SPLIT, ABCDE, ('a', 'd'), THREE)))
            thing = tree
            for _ in range(rnd.randint(1, 2)):
                thing = changed(rnd, thing)
            width = rnd.choice((0, 1, 1, 2))
            try:
                lets_refusal(crews, present, crew, width, thing)
            except InvalidPaper as error:
                results.append(error.word)
            else:
                results.append('accepted')
                self.assertIs(is_booked(crews, present, crew, width), False, thing)
        self.assertEqual(set(results), {'accepted', 'shape', 'set', 'forced', 'end', 'none', 'split'})

    def test_the_sets_and_crews_of_other_trees(self):
        rnd = Random(14)
        for _ in range(400):
            crews = random_crews(rnd, 'abcde', 6)
            present = people_in(crews)
            trees = {}
            for crew in left_in(crews, present):
                trees[crew] = refusal_paper(crews, present, crew, 1)
            for crew in trees:
                for tree in trees.values():
                    if tree is not None and trees[crew] is None:
                        with self.assertRaises(InvalidPaper):
                            lets_refusal(crews, present, crew, 1, tree)

    def test_the_number_of_nodes_is_that_of_the_ends(self):
        for path in PATHS:
            self.assertIn(part_at(NODES, path + (1, 0)), ('none', 'split'))
        self.assertEqual(len(PATHS), len([path for path in places_in(NODES) if part_at(NODES, path) in ('none', 'split')]))


if __name__ == '__main__':
    unittest.main()
