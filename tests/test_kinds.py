import unittest
from itertools import combinations

from crewbook.kinds import is_crews, is_name, is_number, is_set
from tests.samples import ODD, PAIRS, SIXTY, WIDE, all_crews, are_crews, nested, subsets

FUNCTIONS = (is_number, is_name, is_set, is_crews)


class TestKinds(unittest.TestCase):
    def check(self, thing, number=False, name=False, people=False, crews=False):
        for function, expected in zip(FUNCTIONS, (number, name, people, crews)):
            self.assertIs(function(thing), expected, (function, thing))

    def test_odd_values_are_of_no_kind(self):
        for thing in ODD:
            self.check(thing)
        for depth in (1, 2, 3, 29, 30):
            self.check(nested(depth), people=False)

    def test_numbers(self):
        for thing in (0, 1, 2, 10, SIXTY, SIXTY + 1):
            self.check(thing, number=True)
        for thing in (-1, -SIXTY, True, False):
            self.check(thing)

    def test_names_have_one_to_eight_letters(self):
        for thing in ('a', 'z', 'ab', 'abcdefgh', 'zzzzzzzz', 'crews', 'none'):
            self.check(thing, name=True)
        for thing in ('', 'abcdefghi', 'zzzzzzzzz'):
            self.check(thing)

    def test_characters_next_to_the_letters_are_no_letters(self):
        for other in '`{@[AZ09 _-,\n':
            for thing in (other, other + 'a', 'a' + other, 'a' + other + 'a'):
                self.check(thing)

    def test_letters_of_other_alphabets_are_no_letters(self):
        for thing in ('\u00e9', '\u00df', '\u0430', '\u00aa'):
            self.check(thing)

    def test_sets(self):
        for thing in ((), ('a',), ('a', 'b'), ('a', 'ab', 'b'), ('abcdefgh', 'z'), tuple('abcdefghij')):
            self.check(thing, people=True)
        for thing in (['a'], ('b', 'a'), ('a', 'a'), ('a', 'A'), 'a b', ('a', 'c', 'b')):
            self.check(thing)

    def test_crews(self):
        for thing in (PAIRS, WIDE, (('a',),), (('a',), ('b',)), (('a', 'b'), ('a', 'c')),
                      tuple((name,) for name in 'abcdefghijklmnopqrst')):
            self.check(thing, crews=True)

    def test_lists_are_no_crews(self):
        for thing in (list(PAIRS), tuple(list(crew) for crew in PAIRS), ((['a'],),), [('a',)]):
            self.check(thing)

    def test_crews_that_are_not_as_stated(self):
        self.assertIs(is_crews(()), False)
        for thing in (((),), (('a',), ()), ((), ('a',)), (('a', 'a'),), (('b', 'a'),), (('b',), ('a',)),
                      (('a',), ('a',)), (('a',), ('a', 'b')), (('a', 'b'), ('b',)), (('a', 'b', 'c'), ('a', 'c')),
                      (('a', 'b'), ('a', 'c'), ('b', 'c'), ('c',)), (('a',), ('a',), ('b',)), (('a',), ('B',)),
                      (('a',), None), (('a',), True), (('a',), 'b')):
            self.check(thing)

    def test_crews_against_the_definition(self):
        sets = subsets(('a', 'b', 'c'))
        for many in (1, 2, 3, 4):
            for chosen in combinations(sets, many):
                self.assertIs(is_crews(chosen), are_crews(chosen), chosen)
        self.assertTrue(all(is_crews(crews) for crews in all_crews(('a', 'b', 'c'), 3)))

    def test_large_values(self):
        names = [one + two + three for one in 'abcdefghijklm' for two in 'abcdefghijklm' for three in 'abcdefghijklm']
        self.assertIs(is_crews(tuple((name,) for name in names)), True)
        self.assertIs(is_crews(tuple(('a', name) for name in names[:900])), True)
        self.assertIs(is_set(tuple(names)), True)
        self.assertIs(is_set(tuple(names) + ('a',)), False)

    def test_arguments_by_name(self):
        self.assertEqual([is_number(thing=1), is_name(thing='a'), is_set(thing=()), is_crews(thing=PAIRS)], [True] * 4)

    def test_example_of_the_document(self):
        self.assertIs(is_set(('b', 'a')), False)


if __name__ == '__main__':
    unittest.main()
