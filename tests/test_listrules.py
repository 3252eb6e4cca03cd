"""The promises over the functions and classes of the stages 1 to 4 together."""

import unittest
from random import Random

from crewbook import errors
from crewbook.crewchecker import lets_crews
from crewbook.crewreadings import crews_read, set_read
from crewbook.crewtexts import crews_text, set_text
from crewbook.goodcrews import is_good
from crewbook.kinds import is_crews, is_name, is_number, is_set
from crewbook.lists import Crews, Groups, Joined, Posts, Webs
from crewbook.losses import crews_left
from crewbook.searching import crews_with, renamed, without
from tests.samples import ALL, BIG, PAIRS, TWO, WIDE, CrewTest, all_careless, all_crews, good_directly, left_in, people_in, subsets

LISTS = (
    Crews(*PAIRS), Crews(*WIDE), Crews(('a',)), Crews(('a', 'b'), ('c',)), Crews(('a', 'b'), ('a', 'c'), ('b', 'c')),
    Groups((1, ('a', 'b'))), Groups((1, ('a', 'b')), (2, ('c', 'd', 'e'))), Groups((3, ('a', 'b', 'c'))),
    Posts(('a', 'b'), ('b', 'c')), Posts(('a', 'b'), ('a', 'b'), ('c', 'd')), Posts(('a', 'b', 'c'), ('c', 'd'), ('d', 'e')),
    Webs(('a', 'x', 'y'), ('b', 'x', 'y'), ('c', 'y', 'z')), Webs(('a', 'x', 'y'), ('b', 'y', 'z'), ('c', 'x', 'z')),
    Joined(Crews(*PAIRS), Groups((1, ('a', 'b')))), Joined(Posts(('a', 'b'), ('b', 'c')), Webs(('x', 'a', 'b'))),
    Joined(Crews(('a', 'b'), ('c', 'd')), Crews(('x',))), Joined(Joined(Crews(('a',), ('b',))), Crews(('c', 'd'))),
)


class TestLists(CrewTest):
    def test_left_and_search_agree(self):
        for one in LISTS:
            for present in subsets(one.people)[::3 if len(one.people) > 6 else 1]:
                absent = tuple(person for person in one.people if person not in present)
                expected = left_in(one.crews, present)
                self.assertEqual(one.left(present), expected)
                self.assertEqual(crews_left(one.crews, present), expected)
                self.assertEqual(without(one.crews, *absent), expected)
                self.assertEqual(crews_with(one.crews, lacks=absent), expected)
                self.assertEqual(type(one.left(present)), tuple)

    def test_size_and_search_agree(self):
        for one in LISTS:
            found = [crews_with(one.crews, size=number) for number in range(9)]
            self.assertEqual(sum(len(crews) for crews in found), len(one))
            if one.size is None:
                self.assertGreater(len([crews for crews in found if crews]), 1)
            else:
                self.assertEqual(crews_with(one.crews, size=one.size), one.crews)

    def test_is_good(self):
        answers = []
        for one in LISTS:
            self.assertIs(one.is_good, good_directly(one.crews))
            self.assertIs(one.is_good, is_good(one.crews))
            if len(one.people) < 6:
                self.assertIs(one.is_good, all_careless(one.crews))
            if isinstance(one, (Groups, Posts, Webs)):
                self.assertIs(one.is_good, True)
            if one.is_good:
                self.assertIsNotNone(one.size)
            answers.append((type(one), one.is_good))
        self.assertLessEqual({(Crews, True), (Crews, False), (Joined, True), (Joined, False)}, set(answers))

    def test_is_good_of_all_small_lists(self):
        for crews in all_crews(('a', 'b', 'c'), 3):
            self.assertIs(Crews(*crews).is_good, all_careless(crews))

    def test_joined_lists_are_good_if_all_are(self):
        parts = [one for one in LISTS if len(one) <= 3 and set(one.people) <= set('abcde')]
        for one in parts:
            for other in parts:
                second = Crews(*renamed(other.crews, **{person: person + 'x' for person in other.people}))
                self.assertIs(Joined(one, second).is_good, one.is_good and second.is_good)

    def test_crews_and_people(self):
        for one in LISTS:
            self.assertTrue(is_crews(one.crews))
            self.assertEqual(lets_crews(one.crews), len(one))
            self.assertEqual(one.people, people_in(one.crews))
            self.assertEqual(Crews(*one.crews), one)
            self.assertEqual(one, Crews(*one.crews))
            self.assertEqual(one.lines()[-len(one):], Crews(*one.crews).lines())
            self.assertEqual(Crews.read('\n'.join(one.lines()[-len(one):])), one)
            self.assertEqual(crews_read(crews_text(one.crews)), one.crews)

    def test_the_people_that_left_does_not_know(self):
        for one in LISTS:
            self.unknown('zz', one.left, one.people[:1] + ('zz', 'zzz'))
            self.unknown('zz', without, one.crews, one.people[0], 'zz', 'zzz')
            self.unknown('zz', crews_with, one.crews, holds=('zz',), lacks=('zzz',))
            self.unknown('zz', renamed, one.crews, zz='a', zzz='b')

    def test_renamed_lists(self):
        for one in LISTS:
            names = {person: 'n' + person for person in one.people}
            other = Crews(*renamed(one.crews, **names))
            self.assertEqual((len(other), other.size, other.is_good), (len(one), one.size, one.is_good))
            self.assertEqual(other.people, tuple(sorted(names.values())))


class TestArgumentsByName(CrewTest):
    def test_functions(self):
        for function, named, expected in (
                (is_number, {'thing': 1}, True), (is_name, {'thing': 'a'}, True), (is_set, {'thing': ()}, True),
                (is_crews, {'thing': TWO}, True), (lets_crews, {'thing': TWO}, 2),
                (crews_with, {'lacks': ('b',), 'holds': ('a',), 'size': 2, 'crews': TWO}, TWO[1:]),
                (without, {'crews': TWO}, TWO), (renamed, {'b': 'd', 'crews': TWO}, (('a', 'c'), ('a', 'd'))),
                (set_text, {'people': ('a', 'b')}, 'a,b'), (crews_text, {'crews': TWO}, 'crew a,b\ncrew a,c'),
                (set_read, {'text': '-'}, ()), (crews_read, {'text': 'crew a'}, (('a',),))):
            self.assertEqual(function(**named), expected)

    def test_methods(self):
        self.assertEqual(Crews(*WIDE).left(present=BIG), (BIG,))
        for one in LISTS:
            self.assertEqual(one.left(present=one.people), one.crews)
        self.assertEqual(Crews.read(text='crew a').crews, (('a',),))
        self.assertEqual(Groups.read(text='group 1 a').crews, (('a',),))
        self.assertEqual(Posts.read(text='post a').crews, (('a',),))
        self.assertEqual(Webs.read(text='tie a x y').crews, (('a',),))


class TestErrors(CrewTest):
    def test_errors_keep_the_very_objects(self):
        for name, fields in (('InvalidPaper', ('word', 'at')), ('UnknownPerson', ('person',)),
                             ('InvalidEvent', ('event', 'reason')), ('InvalidWidth', ('width',)),
                             ('NothingToUndo', ('steps',)), ('InvalidText', ('line', 'field')), ('InvalidRow', ('row',))):
            for odd in ([], {}, object(), None, True, 'a', (1, [2]), ValueError()):
                things = [odd, [odd]][:len(fields)]
                for error in (getattr(errors, name)(*things), getattr(errors, name)(**dict(zip(fields, things)))):
                    for field, thing in zip(fields, things):
                        self.assertIs(getattr(error, field), thing)
                    self.assertEqual(set(vars(error)), set(fields))

    def test_a_raised_error_keeps_the_name_that_was_passed(self):
        person = ''.join(['z', 'z'])
        for function, arguments, named in (
                (Crews(*TWO).left, (('a', person),), {}), (without, (TWO, person), {}), (crews_with, (TWO,), {'holds': (person,)}),
                (crews_with, (TWO,), {'lacks': ('a', person)}), (crews_left, (TWO, (person,)), {})):
            with self.assertRaises(errors.UnknownPerson) as caught:
                function(*arguments, **named)
            self.assertIs(caught.exception.person, person)

    def test_no_argument_is_changed(self):
        rnd = Random(51)
        names = {person: person + 'a' for person in ALL}
        for _ in range(20):
            some = tuple(sorted(rnd.sample(ALL, 3)))
            renamed(WIDE, **{person: names[person] for person in some})
            without(WIDE, *some)
        self.assertEqual((names['a'], WIDE[0], len(WIDE)), ('aa', ('a', 'c', 'p'), 7))


if __name__ == '__main__':
    unittest.main()
