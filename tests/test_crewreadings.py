import unittest

from crewbook.crewreadings import crews_read, set_read
from crewbook.crewtexts import crews_text, set_text
from crewbook.errors import InvalidPaper, InvalidText
from crewbook.lists import Crews, Groups, Posts, Webs
from tests.samples import PAIRS, SIXTY, WIDE, subsets


class ReadingTest(unittest.TestCase):
    def refuse(self, read, text, line, field):
        with self.assertRaises(InvalidText) as caught:
            read(text)
        self.assertEqual((caught.exception.line, caught.exception.field), (line, field), repr(text))

    def refuse_entries(self, read, text, word, at):
        with self.assertRaises(InvalidPaper) as caught:
            read(text)
        self.assertEqual((caught.exception.word, caught.exception.at), (word, at), repr(text))


class TestSetRead(ReadingTest):
    def test_sets(self):
        for text, people in (('-', ()), ('a', ('a',)), ('a,b', ('a', 'b')), ('abcdefgh,z', ('abcdefgh', 'z'))):
            self.assertEqual(set_read(text), people)
            self.assertEqual(set_read(text=text), people)

    def test_other_texts(self):
        for text in ('', ' ', ',', 'a,', ',a', 'a,,b', 'b,a', 'a,a', 'A', 'a b', 'a, b', ' a', 'a ', '--', '-,a', 'a,-',
                     'a\n', '\na', 'a\nb', '\n', '-\n', 'a1', '1', 'abcdefghi', 'a' * 4000, 'a;b', '()', 'crew a'):
            self.refuse(set_read, text, 0, 0)

    def test_reading_what_was_written(self):
        for people in subsets(('a', 'ab', 'abcdefgh', 'z')):
            self.assertEqual(set_read(set_text(people)), people)
            self.assertEqual(set_text(set_read(set_text(people))), set_text(people))


class TestCrewsRead(ReadingTest):
    def test_crews(self):
        for crews in (PAIRS, WIDE, (('a',),)):
            self.assertEqual(crews_read(crews_text(crews)), crews)
            self.assertEqual(crews_text(crews_read(text=crews_text(crews))), crews_text(crews))

    def test_sets_that_are_not_crews(self):
        for text, sets in (('crew -', ((),)), ('crew b\ncrew a', (('b',), ('a',))), ('crew a\ncrew a', (('a',), ('a',))),
                           ('crew a\ncrew a,b\ncrew -', (('a',), ('a', 'b'), ()))):
            self.assertEqual(crews_read(text), sets)
            self.assertEqual(crews_text(sets), text)
        many = '\n'.join(['crew a'] * 500)
        self.assertEqual(crews_read(many), (('a',),) * 500)

    def test_words(self):
        for text, line, field in (
                ('', 0, 0), (' ', 0, 0), ('\n', 0, 0), ('crew', 0, 1), ('crew ', 0, 1), (' crew a', 0, 0),
                ('crew  a', 0, 1), ('crew a ', 0, 2), ('crew a b', 0, 2), ('crews a', 0, 0), ('a', 0, 0),
                ('Crew a', 0, 0), ('crew b,a', 0, 1), ('crew a,a', 0, 1), ('crew a,', 0, 1), ('crew --', 0, 1),
                ('crew a\n', 1, 0), ('\ncrew a', 0, 0), ('crew a\n\ncrew b', 1, 0), ('crew a\ncrew', 1, 1),
                ('crew a\ncrew b c\ncrew', 1, 2), ('crew a\ngroup 1 a', 1, 0), ('crew crew', 0, None)):
            if field is None:
                self.assertEqual(crews_read(text), (('crew',),))
            else:
                self.refuse(crews_read, text, line, field)


class TestListRead(ReadingTest):
    def test_lists_read_their_own_entries(self):
        for one, text in (
                (Crews(('a', 'b'), ('c',)), 'crew a,b\ncrew c'), (Groups((1, ('a', 'b')), (1, ('c',))), None),
                (Posts(('a', 'b'), ('b', 'c')), None), (Webs(('a', 'x', 'y'), ('b', 'x', 'y'), ('c', 'y', 'z')), None)):
            kind = type(one)
            entries = [line for line in one.lines() if kind == Crews or not line.startswith('crew')]
            found = kind.read('\n'.join(entries))
            self.assertEqual(found, one)
            self.assertIs(type(found), kind)
            self.assertEqual(found.lines(), one.lines())
            self.assertEqual(text or '\n'.join(entries), '\n'.join(entries))

    def test_examples_of_the_document(self):
        self.assertEqual(Groups.read('group 1 a,b').crews, (('a',), ('b',)))
        self.refuse(Groups.read, 'group 01 a,b', 0, 1)

    def test_the_class_on_which_it_is_called(self):
        for kind, text in ((Crews, 'crew a'), (Groups, 'group 1 a'), (Posts, 'post a'), (Webs, 'tie a x y')):
            below = type('Below', (kind,), {})
            self.assertIs(type(below.read(text)), below)
            self.assertIs(type(kind.read(text=text)), kind)
            self.assertEqual(kind.read(text).crews, (('a',),))

    def test_crew_lines(self):
        for text, line, field in (('', 0, 0), ('crew', 0, 1), ('crew a b', 0, 2), ('crew a\ncrew ', 1, 1),
                                  ('crew a\nx', 1, 0), ('crew a\n', 1, 0)):
            self.refuse(Crews.read, text, line, field)
        for text, word, at in (('crew -', 'crew', 0), ('crew b\ncrew a', 'rise', 1), ('crew a\ncrew a,b', 'inside', (0, 1)),
                               ('\n'.join('crew ' + name for name in 'abcdefghijklm'), 'many', -1)):
            self.refuse_entries(Crews.read, text, word, at)
        self.refuse(Crews.read, 'crew b\ncrew a\ncrew', 2, 1)

    def test_group_lines(self):
        for text, line, field in (
                ('', 0, 0), ('group', 0, 1), ('group 1', 0, 2), ('group 1 ', 0, 2), ('group 1 a b', 0, 3),
                ('group 1 a ', 0, 3), ('group  1 a', 0, 1), ('group a 1', 0, 1), ('group -1 a', 0, 1),
                ('group +1 a', 0, 1), ('group 1_0 a', 0, 1), ('group 00 a', 0, 1), ('group 1. a', 0, 1),
                ('group - a', 0, 1), ('group 1 b,a', 0, 2), ('group 1 1', 0, 2), ('crew a', 0, 0),
                ('group 1 a\ncrew a', 1, 0), ('group 1 a\ngroup 1', 1, 2), ('group 1 a\n', 1, 0)):
            self.refuse(Groups.read, text, line, field)
        for text, word, at in (('group 0 a', 'group', 0), ('group 1 -', 'group', 0), ('group 0 -', 'group', 0),
                               ('group 1 a\ngroup 1 a', 'twice', 1), ('group 2 a', 'group', 0),
                               ('group 1 a,b,c,d,e,f,g,h,i,j,k,l,m', 'many', -1)):
            self.refuse_entries(Groups.read, text, word, at)

    def test_numbers_of_sixty_digits(self):
        self.refuse_entries(Groups.read, f'group {SIXTY} a', 'group', 0)
        self.refuse(Groups.read, f'group {SIXTY + 1} a', 0, 1)
        self.refuse(Groups.read, 'group 0' + '1' * 59 + ' a', 0, 1)
        self.assertEqual(Groups.read('group 10 a,b,c,d,e,f,g,h,i,j').crews, (tuple('abcdefghij'),))

    def test_post_lines(self):
        for text, line, field in (('', 0, 0), ('post', 0, 1), ('post a b', 0, 2), ('post ', 0, 1), ('posts a', 0, 0),
                                  ('post a\ncrew a', 1, 0), ('post a,A', 0, 1)):
            self.refuse(Posts.read, text, line, field)
        for text, word, at in (('post -', 'post', 0), ('post a\npost -', 'post', 1), ('post a\npost a', 'fill', -1)):
            self.refuse_entries(Posts.read, text, word, at)

    def test_tie_lines(self):
        for text, line, field in (
                ('', 0, 0), ('tie', 0, 1), ('tie a', 0, 2), ('tie a x', 0, 3), ('tie a x y z', 0, 4), ('tie a x y ', 0, 4),
                ('tie a,b x y', 0, 1), ('tie a - y', 0, 2), ('tie a x 1', 0, 3), ('tie a x abcdefghi', 0, 3),
                ('tie a  x y', 0, 2), ('tie a x y\ntie', 1, 1), ('tie - x y', 0, 1)):
            self.refuse(Webs.read, text, line, field)
        for text, word, at in (('tie a x x', 'tie', 0), ('tie b x y\ntie a y z', 'tie', 1),
                               ('tie a v w\ntie b x y', 'split', -1)):
            self.refuse_entries(Webs.read, text, word, at)

    def test_the_first_line_that_cannot_be_read(self):
        self.refuse(Groups.read, 'group 0 a\ngroup x a\ngroup', 1, 1)
        self.refuse(Webs.read, 'tie a x x\ntie a x y\ntie b x', 2, 3)


if __name__ == '__main__':
    unittest.main()
