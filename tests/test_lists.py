import unittest
from itertools import combinations, product
from random import Random

from crewbook.errors import InvalidPaper, UnknownPerson
from crewbook.lists import Crews, Groups, Joined, Posts, Webs
from tests.samples import ODD, PAIRS, SIXTY, THIRTEEN, WIDE, all_crews, left_in, people_in, subsets

TWELVE = THIRTEEN[:12]


class ListTest(unittest.TestCase):
    def refuse(self, kind, entries, word, at):
        with self.assertRaises(InvalidPaper) as caught:
            kind(*entries)
        self.assertEqual((caught.exception.word, caught.exception.at), (word, at), entries)


class TestCrews(ListTest):
    def test_the_crews_are_the_entries(self):
        for crews in (PAIRS, WIDE, (('a',),), tuple((name,) for name in TWELVE)):
            self.assertEqual(Crews(*crews).crews, crews)
            self.assertIs(type(Crews(*crews).crews), tuple)

    def test_shape(self):
        for entry in ODD:
            if not (isinstance(entry, tuple) and all(isinstance(name, str) for name in entry)) or 'A' in entry:
                self.refuse(Crews, (entry,), 'shape', -1)
                self.refuse(Crews, (('b',), ('a',), entry), 'shape', -1)
        self.refuse(Crews, (PAIRS,), 'shape', -1)
        self.refuse(Crews, (Crews(*PAIRS),), 'shape', -1)

    def test_the_words_of_lets_crews(self):
        self.refuse(Crews, (), 'empty', -1)
        self.refuse(Crews, ((),), 'crew', 0)
        self.refuse(Crews, (('a',), ('c', 'b')), 'crew', 1)
        self.refuse(Crews, (('b',), ('a',)), 'rise', 1)
        self.refuse(Crews, (('a', 'b'), ('b',)), 'inside', (1, 0))

    def test_many(self):
        thirteen = tuple((name,) for name in THIRTEEN)
        self.refuse(Crews, thirteen, 'many', -1)
        self.refuse(Crews, thirteen[::-1], 'rise', 1)
        self.refuse(Crews, thirteen + (('m', 'n'),), 'inside', (12, 13))
        self.assertEqual(Crews.MOST, 12)

    def test_a_class_below_may_have_another_limit(self):
        class Few(Crews):
            MOST = 2
        self.refuse(Few, PAIRS[:3], 'many', -1)
        self.assertEqual(Few(*PAIRS[:2]).crews, PAIRS[:2])


class TestGroups(ListTest):
    def test_example_of_the_document(self):
        self.assertEqual(Groups((1, ('a', 'b')), (1, ('c',))).crews, (('a', 'c'), ('b', 'c')))

    def test_the_crews_are_ascending_sets(self):
        self.assertEqual(Groups((2, ('b', 'd', 'x')), (1, ('a', 'c'))).crews, (
            ('a', 'b', 'd'), ('a', 'b', 'x'), ('a', 'd', 'x'), ('b', 'c', 'd'), ('b', 'c', 'x'), ('c', 'd', 'x')))
        self.assertEqual(Groups((3, ('a', 'b', 'c'))).crews, (('a', 'b', 'c'),))

    def test_shape(self):
        for entry in ODD + ((1, ('b', 'a')), (1, ['a']), [1, ('a',)], (True, ('a',)), (-1, ('a',)), ('1', ('a',)),
                            (1, ('a',), 1), (1,), (None, ('a',)), (1, 'a'), (('a',), 1), ('a', 'b')):
            self.refuse(Groups, (entry,), 'shape', -1)
            self.refuse(Groups, ((0, ()), entry), 'shape', -1)

    def test_empty(self):
        self.refuse(Groups, (), 'empty', -1)

    def test_group(self):
        self.refuse(Groups, ((0, ('a',)),), 'group', 0)
        self.refuse(Groups, ((2, ('a',)),), 'group', 0)
        self.refuse(Groups, ((SIXTY, ('a',)),), 'group', 0)
        self.refuse(Groups, ((0, ()),), 'group', 0)
        self.refuse(Groups, ((1, ()),), 'group', 0)
        self.refuse(Groups, ((1, ('a',)), (3, ('b', 'c'))), 'group', 1)

    def test_twice(self):
        self.refuse(Groups, ((1, ('a', 'b')), (1, ('b', 'c'))), 'twice', 1)
        self.refuse(Groups, ((1, ('a', 'b')), (1, ('c',)), (1, ('a', 'd'))), 'twice', 2)

    def test_the_order_of_the_words(self):
        self.refuse(Groups, ((1, ('a', 'b')), (0, ('a',)), (9, ())), 'group', 1)
        self.refuse(Groups, ((1, ('a', 'b')), (1, ('a',)), (9, ())), 'twice', 1)
        self.refuse(Groups, ((1, THIRTEEN), (1, ('m',))), 'twice', 1)
        self.refuse(Groups, ((1, THIRTEEN), (0, ('z',))), 'group', 1)

    def test_many(self):
        self.refuse(Groups, ((1, THIRTEEN),), 'many', -1)
        self.refuse(Groups, ((12, THIRTEEN),), 'many', -1)
        self.refuse(Groups, ((6, TWELVE),), 'many', -1)
        self.refuse(Groups, ((2, ('a', 'b', 'c', 'd', 'e')), (1, ('x', 'y'))), 'many', -1)
        self.refuse(Groups, ((20, tuple('abcdefghijklmnopqrstuvwxyz')),), 'many', -1)
        self.assertEqual(Groups((1, TWELVE)).crews, tuple((name,) for name in TWELVE))
        self.assertEqual(len(Groups((11, TWELVE))), 12)

    def test_against_a_direct_search(self):
        rnd = Random(1)
        for _ in range(200):
            people = rnd.sample('abcdefgh', rnd.randint(1, 8))
            cuts = sorted(rnd.sample(range(1, len(people)), rnd.randint(0, min(2, len(people) - 1))))
            parts = [tuple(sorted(people[i:j])) for i, j in zip([0] + cuts, cuts + [len(people)])]
            groups = [(rnd.randint(1, len(part)), part) for part in parts]
            found = tuple(some for some in subsets(sorted(people)) if all(
                len(set(some) & set(part)) == number for number, part in groups))
            if len(found) > 12:
                self.refuse(Groups, groups, 'many', -1)
            else:
                self.assertEqual(Groups(*groups).crews, found)


class TestPosts(ListTest):
    def test_every_member_is_used_once(self):
        self.assertEqual(Posts(('a', 'b'), ('b', 'c')).crews, (('a', 'b'), ('a', 'c'), ('b', 'c')))
        self.assertEqual(Posts(('a', 'b'), ('a', 'b')).crews, (('a', 'b'),))
        self.assertEqual(Posts(('x',), ('a',)).crews, (('a', 'x'),))
        self.assertEqual(Posts(('b', 'c'), ('a', 'b'), ('b',)).crews, (('a', 'b', 'c'),))

    def test_shape(self):
        for entry in ODD:
            if entry != ():
                self.refuse(Posts, (entry,), 'shape', -1)
                self.refuse(Posts, ((), entry), 'shape', -1)

    def test_the_words(self):
        self.refuse(Posts, (), 'empty', -1)
        self.refuse(Posts, ((),), 'post', 0)
        self.refuse(Posts, (('a',), (), ('b',), ()), 'post', 1)
        self.refuse(Posts, (('a',), ('a',)), 'fill', -1)
        self.refuse(Posts, (('a', 'b'), ('a', 'b'), ('a', 'b')), 'fill', -1)
        self.refuse(Posts, (('a',), ('b',), ('a', 'b'), ('c', 'd')), 'fill', -1)
        self.refuse(Posts, (('a',), ('a',), ()), 'post', 2)

    def test_many(self):
        self.refuse(Posts, (THIRTEEN,), 'many', -1)
        self.refuse(Posts, (tuple('abcd'), tuple('efgh')), 'many', -1)
        self.refuse(Posts, (THIRTEEN, ('a',), ('a',)), 'fill', -1)
        self.refuse(Posts, (tuple('abcdefghijklmnopqrstuvwxyz'),) * 12, 'many', -1)
        self.assertEqual(len(Posts(TWELVE)), 12)
        self.assertEqual(Posts(*[TWELVE] * 12).crews, (TWELVE,))
        self.assertEqual(len(Posts(tuple('abcd'), tuple('xyz'))), 12)

    def test_against_a_direct_search(self):
        rnd = Random(2)
        words = []
        for _ in range(400):
            posts = [tuple(sorted(rnd.sample('abcdef', rnd.randint(1, 4)))) for _ in range(rnd.randint(1, 5))]
            found = tuple(sorted({tuple(sorted(way)) for way in product(*posts) if len(set(way)) == len(posts)}))
            if not found:
                self.refuse(Posts, posts, 'fill', -1)
            elif len(found) > 12:
                self.refuse(Posts, posts, 'many', -1)
            else:
                self.assertEqual(Posts(*posts).crews, found)
            words.append('fill' if not found else 'many' if len(found) > 12 else 'crews')
        self.assertEqual(set(words), {'fill', 'many', 'crews'})


def joins_all(ties, some):
    """Return whether the ties of some persons join all ends."""
    ends = {place for _, end, other in ties for place in (end, other)}
    reached = {min(ends)}
    for _ in ends:
        for person, end, other in ties:
            if person in some and (end in reached or other in reached):
                reached |= {end, other}
    return reached == ends


class TestWebs(ListTest):
    def test_example_of_the_document(self):
        ties = (('a', 'x', 'y'), ('b', 'x', 'y'), ('c', 'y', 'z'))
        self.assertEqual(Webs(*ties).crews, (('a', 'c'), ('b', 'c')))

    def test_no_rings(self):
        self.assertEqual(Webs(('a', 'x', 'y'), ('b', 'y', 'z'), ('c', 'x', 'z')).crews,
                         (('a', 'b'), ('a', 'c'), ('b', 'c')))

    def test_an_end_may_be_called_like_a_person(self):
        self.assertEqual(Webs(('a', 'a', 'b'), ('b', 'a', 'c')).crews, (('a', 'b'),))

    def test_shape(self):
        for entry in ODD + (('a', 'b'), ('a', 'b', 'c', 'd'), ('a', 'b', 'C'), ['a', 'b', 'c'], ('a', 'b', 1),
                            ('a', 'b', None), ('a', 'b', ('c',)), (True, 'b', 'c'), ('abcdefghi', 'b', 'c')):
            self.refuse(Webs, (entry,), 'shape', -1)
            self.refuse(Webs, (('a', 'b', 'b'), entry), 'shape', -1)

    def test_the_words(self):
        self.refuse(Webs, (), 'empty', -1)
        self.refuse(Webs, (('a', 'x', 'x'),), 'tie', 0)
        self.refuse(Webs, (('a', 'x', 'y'), ('a', 'y', 'z')), 'tie', 1)
        self.refuse(Webs, (('b', 'x', 'y'), ('a', 'y', 'z')), 'tie', 1)
        self.refuse(Webs, (('a', 'x', 'y'), ('b', 'v', 'w')), 'split', -1)
        self.refuse(Webs, (('a', 'x', 'y'), ('b', 'v', 'w'), ('c', 'x', 'x')), 'tie', 2)
        self.refuse(Webs, (('b', 'x', 'y'), ('a', 'y', 'z'), ('c', 'x', 'x')), 'tie', 1)

    def test_many(self):
        self.refuse(Webs, tuple((name, 'x', 'y') for name in THIRTEEN), 'many', -1)
        self.refuse(Webs, tuple((name, 'x', 'y') for name in THIRTEEN) + (('z', 'v', 'w'),), 'split', -1)
        self.refuse(Webs, tuple((name, *ends) for name, ends in zip('abcdef', combinations('wxyz', 2))), 'many', -1)
        self.assertEqual(len(Webs(*[(name, 'x', 'y') for name in TWELVE])), 12)

    def test_against_a_direct_search(self):
        rnd = Random(3)
        words = []
        for _ in range(400):
            many = rnd.randint(1, 6)
            ties = [(name, *rnd.sample('abxyz'[:rnd.randint(2, 5)], 2)) for name in 'abcdef'[:many]]
            spanning = [some for some in subsets('abcdef'[:many]) if joins_all(ties, some)]
            found = tuple(some for some in spanning if not any(set(other) < set(some) for other in spanning))
            if not found:
                self.refuse(Webs, ties, 'split', -1)
            elif len(found) > 12:
                self.refuse(Webs, ties, 'many', -1)
            else:
                self.assertEqual(Webs(*ties).crews, found)
            words.append('split' if not found else 'many' if len(found) > 12 else 'crews')
        self.assertEqual(set(words), {'split', 'many', 'crews'})


class TestJoined(ListTest):
    def test_one_crew_of_each_list(self):
        one, two = Crews(('a', 'c'), ('b',)), Groups((1, ('d', 'e')))
        self.assertEqual(Joined(one, two).crews, (('a', 'c', 'd'), ('a', 'c', 'e'), ('b', 'd'), ('b', 'e')))
        self.assertEqual(Joined(two, one).crews, Joined(one, two).crews)
        self.assertEqual(Joined(one).crews, one.crews)
        self.assertEqual(Joined(Joined(one), two), Joined(one, two))
        self.assertEqual(Joined(Posts(('x',)), Webs(('y', 'a', 'b')), one).crews, (('a', 'c', 'x', 'y'), ('b', 'x', 'y')))

    def test_shape(self):
        good = Crews(('a',))
        for entry in ODD + ((), PAIRS, (('a',),), (1, ('a',)), Crews):
            self.refuse(Joined, (entry,), 'shape', -1)
            self.refuse(Joined, (good, good, entry), 'shape', -1)

    def test_the_words(self):
        one, two, three = Crews(('a',), ('b',)), Crews(('c',)), Crews(('b', 'd'))
        self.refuse(Joined, (), 'empty', -1)
        self.refuse(Joined, (one, two, three, one), 'twice', 2)
        self.refuse(Joined, (one, one), 'twice', 1)

    def test_many(self):
        lists = [Groups((1, tuple(names))) for names in ('abcd', 'efg', 'hi')]
        self.refuse(Joined, lists, 'many', -1)
        self.assertEqual(len(Joined(*lists[:2])), 12)
        self.refuse(Joined, lists + lists, 'twice', 3)

    def test_against_a_direct_search(self):
        rnd = Random(4)
        pool = all_crews(('a', 'b', 'c'), 3)
        for _ in range(200):
            one = rnd.choice(pool)
            two = tuple(tuple({'a': 'x', 'b': 'd', 'c': 'z'}[name] for name in crew) for crew in rnd.choice(pool))
            two = tuple(sorted(tuple(sorted(crew)) for crew in two))
            found = tuple(sorted(tuple(sorted(crew + other)) for crew in one for other in two))
            self.assertEqual(Joined(Crews(*one), Crews(*two)).crews, found)


LISTS = (
    Crews(*PAIRS), Crews(('a',)), Groups((1, ('a', 'b')), (1, ('c',))), Posts(('a', 'b'), ('b', 'd')),
    Webs(('a', 'x', 'y'), ('b', 'y', 'z'), ('c', 'x', 'z')), Joined(Crews(('a', 'c'), ('b',)), Groups((1, ('d',)))),
    Crews(*WIDE),
)


class TestProperties(unittest.TestCase):
    def test_people(self):
        for one in LISTS:
            self.assertEqual(one.people, people_in(one.crews))
        self.assertEqual(Webs(('b', 'x', 'y')).people, ('b',))

    def test_size(self):
        self.assertEqual([one.size for one in LISTS], [2, 1, 2, 2, 2, None, None])
        self.assertEqual(Crews(('a', 'b', 'c')).size, 3)
        self.assertIsNone(Joined(Crews(('a', 'b'), ('c',))).size)

    def test_is_good(self):
        self.assertEqual([one.is_good for one in LISTS], [False, True, True, True, True, False, False])
        self.assertIs(Crews(('a', 'b'), ('c', 'd')).is_good, False)
        self.assertIs(Joined(Groups((1, ('a', 'b'))), Groups((1, ('c', 'd')))).is_good, True)
        self.assertIs(Joined(Crews(('a', 'b'), ('c', 'd')), Crews(('e',))).is_good, False)

    def test_groups_posts_and_webs_are_always_good(self):
        rnd = Random(5)
        made = 0
        for _ in range(100):
            posts = [tuple(sorted(rnd.sample('abcde', rnd.randint(1, 3)))) for _ in range(rnd.randint(1, 3))]
            ties = [(name, *rnd.sample('xyz', 2)) for name in 'abcd']
            for kind, entries in ((Posts, posts), (Webs, ties)):
                try:
                    one = kind(*entries)
                except InvalidPaper:
                    continue
                made += 1
                self.assertIs(one.is_good, True)
                self.assertIs(type(one.size), int)
        self.assertGreater(made, 50)

    def test_len(self):
        self.assertEqual([len(one) for one in LISTS], [5, 1, 2, 3, 3, 2, 7])

    def test_left(self):
        for one in LISTS:
            for people in subsets(one.people):
                left = one.left(people)
                self.assertEqual(left, left_in(one.crews, people))
                self.assertIs(type(left), tuple)
        self.assertEqual(LISTS[0].left(present=('m', 'p', 'q')), (('m', 'p'), ('m', 'q')))

    def test_left_with_unknown_people(self):
        for one in LISTS:
            for present, first in ((('abcdefgh',), 'abcdefgh'), (('bb', 'c', 'zz'), 'bb'), (one.people + ('z',), 'z')):
                with self.assertRaises(UnknownPerson) as caught:
                    one.left(present)
                self.assertEqual(caught.exception.person, first)

    def test_an_end_is_not_one_of_the_people(self):
        with self.assertRaises(UnknownPerson):
            Webs(('a', 'x', 'y')).left(('x',))

    def test_a_list_cannot_be_changed(self):
        for one in LISTS:
            for name in ('crews', 'people', 'size', 'is_good'):
                with self.assertRaises(AttributeError):
                    setattr(one, name, ())

    def test_lines(self):
        self.assertEqual(Groups((1, ('a', 'b'))).lines(), ('group 1 a,b', 'crew a', 'crew b'))
        self.assertEqual(Crews(('a', 'b'), ('c',)).lines(), ('crew a,b', 'crew c'))
        self.assertEqual(Groups((2, ('x', 'y')), (1, ('a', 'b'))).lines(),
                         ('group 2 x,y', 'group 1 a,b', 'crew a,x,y', 'crew b,x,y'))
        self.assertEqual(Posts(('b', 'c'), ('a',)).lines(), ('post b,c', 'post a', 'crew a,b', 'crew a,c'))
        self.assertEqual(Webs(('a', 'y', 'x'), ('b', 'x', 'z')).lines(), ('tie a y x', 'tie b x z', 'crew a,b'))
        self.assertEqual(Joined(Groups((1, ('c', 'd'))), Crews(('a', 'b'))).lines(),
                         ('join 2', 'join 1', 'crew a,b,c', 'crew a,b,d'))
        for one in LISTS:
            self.assertIs(type(one.lines()), tuple)


class TestEquality(unittest.TestCase):
    def test_lists_of_different_classes_with_the_same_crews(self):
        same = (Crews(('a', 'b'), ('a', 'c'), ('b', 'c')), Groups((2, ('a', 'b', 'c'))), Posts(('a', 'b'), ('b', 'c')),
                Posts(('b', 'c'), ('a', 'b')), Webs(('a', 'x', 'y'), ('b', 'y', 'z'), ('c', 'x', 'z')),
                Joined(Groups((2, ('a', 'b', 'c')))))
        for one in same:
            for other in same:
                self.assertIs(one == other, True)
                self.assertIs(one != other, False)

    def test_lists_with_other_crews(self):
        for one in LISTS:
            for other in LISTS:
                self.assertIs(one == other, one is other)
                self.assertIs(one != other, one is not other)
        self.assertIs(Crews(('a',)) == Crews(('b',)), False)
        self.assertIs(Crews(('a', 'b')) == Groups((1, ('a', 'b'))), False)

    def test_other_values(self):
        for one in LISTS:
            for other in ODD + (one.crews, list(one.crews), one.lines(), len(one), object(), Crews, {}):
                self.assertIs(one == other, False)
                self.assertIs(other == one, False)
                self.assertIs(one != other, True)

    def test_classes_below(self):
        class Mine(Posts):
            pass
        self.assertIs(Mine(('a', 'b')) == Groups((1, ('a', 'b'))), True)
        self.assertIs(Groups((1, ('a', 'b'))) == Mine(('a', 'b')), True)
        self.assertIs(Groups((1, ('a', 'c'))) == Mine(('a', 'b')), False)


class TestMinimal(unittest.TestCase):
    def test_sets_that_contain_no_other(self):
        self.assertEqual(Crews.minimal(('a', 'b'), ('a',), ('c', 'd')), (('a',), ('c', 'd')))
        self.assertEqual(Crews.minimal(('c', 'd'), ('a',)), (('a',), ('c', 'd')))

    def test_each_once(self):
        self.assertEqual(Crews.minimal(('b',), ('a',), ('b',), ('a',)), (('a',), ('b',)))

    def test_edges(self):
        self.assertEqual(Crews.minimal(), ())
        self.assertEqual(Crews.minimal(()), ((),))
        self.assertEqual(Crews.minimal(('a',), (), ('b', 'c')), ((),))
        self.assertEqual(Crews.minimal(*[(name,) for name in THIRTEEN]), tuple((name,) for name in THIRTEEN))

    def test_it_can_be_called_off_each_class_and_object(self):
        for one in LISTS + (Groups, Posts, Webs, Joined):
            self.assertEqual(one.minimal(('a', 'b'), ('b',)), (('b',),))

    def test_against_the_definition(self):
        sets = subsets(('a', 'b', 'c'))
        for many in (1, 2, 3):
            for chosen in product(sets, repeat=many):
                found = {some for some in chosen if not any(set(other) < set(some) for other in chosen)}
                self.assertEqual(Crews.minimal(*chosen), tuple(sorted(found)))


if __name__ == '__main__':
    unittest.main()
