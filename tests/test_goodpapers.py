import unittest

from crewbook.goodchecker import lets_good
from crewbook.goodcrews import is_good
from crewbook.goodpapers import good_paper
from crewbook.lists import Groups, Webs
from tests.samples import (FOUR, PAIRS, THIRTEEN, TWO, WIDE, CrewTest, all_careless, all_crews, good_directly)


class TestGoodPaper(CrewTest):
    def accept(self, crews, good):
        paper = good_paper(crews)
        self.assertIs(type(paper), tuple)
        self.assertEqual(paper[0], 'good' if good else 'bad')
        self.assertIs(lets_good(crews, paper), good)
        return paper

    def test_good_crews(self):
        self.assertEqual(self.accept(TWO, True), ('good', ((0, 1, 'b', 'c'), (1, 0, 'c', 'b'))))
        self.assertEqual(self.accept((('a',),), True), ('good', ()))
        self.accept(tuple((name,) for name in THIRTEEN[:12]), True)
        self.accept(Groups((1, ('a', 'b', 'c')), (2, ('x', 'y', 'z'))).crews, True)
        self.accept(Webs(('a', 'x', 'y'), ('b', 'y', 'z'), ('c', 'x', 'z'), ('d', 'w', 'x'), ('e', 'w', 'z')).crews, True)

    def test_other_crews(self):
        self.assertEqual(self.accept(FOUR, False)[1], ('a', 'b', 'c', 'd'))
        for crews in (PAIRS, WIDE, (('a', 'b'), ('c',)), (('a',), ('b', 'c')), (('a', 'b'), ('a', 'c'), ('b', 'd'))):
            self.accept(crews, False)

    def test_crews_of_other_sizes(self):
        # A crew with fewer members is an answer without an exchange, so another loss must be found.
        for crews in ((('a', 'b', 'c'), ('a', 'd')), (('a', 'b', 'c'), ('b', 'd'), ('c', 'd')), (('a',), ('b', 'c', 'd'))):
            self.accept(crews, False)

    def test_against_the_definition(self):
        for crews in all_crews(('a', 'b', 'c', 'd'), 4):
            self.accept(crews, good_directly(crews))
            self.assertIs(is_good(crews), good_directly(crews))

    def test_good_papers_are_those_of_careless_crews(self):
        for crews in all_crews(('a', 'b', 'c'), 3) + [FOUR, TWO]:
            self.accept(crews, all_careless(crews))

    def test_arguments_by_name(self):
        self.assertEqual(good_paper(crews=TWO), good_paper(TWO))


if __name__ == '__main__':
    unittest.main()
