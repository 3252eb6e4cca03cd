import unittest

from crewbook.eventtexts import event_line, log_lines
from tests.samples import PAIRS, SIXTY

START = ('watch', (('m', 'n'), ('m', 'p')), ('m', 'n'), 1, ())


class TestEventLine(unittest.TestCase):
    def test_losses(self):
        self.assertEqual(event_line(('lose', 'n', ('m', 'q'))), 'lose n m,q')
        self.assertEqual(event_line(('lose', 'p', None)), 'lose p -')
        self.assertEqual(event_line(('lose', 'abcdefgh', ('a',))), 'lose abcdefgh a')

    def test_returns(self):
        self.assertEqual(event_line(('back', 'n', None)), 'back n -')
        self.assertEqual(event_line(('back', 'n', ('m', 'n'))), 'back n m,n')

    def test_empty_sets(self):
        self.assertEqual(event_line(('back', 'n', ())), 'back n -')
        self.assertEqual(event_line(('lose', 'n', ())), 'lose n -')

    def test_widths(self):
        self.assertEqual(event_line(('widen', 2)), 'widen 2')
        self.assertEqual(event_line(('widen', 0)), 'widen 0')
        self.assertEqual(event_line(('widen', SIXTY)), 'widen ' + '9' * 60)

    def test_people_that_are_called_like_words(self):
        self.assertEqual(event_line(('lose', 'widen', ('back', 'lose'))), 'lose widen back,lose')
        self.assertEqual(event_line(event=('back', 'widen', None)), 'back widen -')


class TestLogLines(unittest.TestCase):
    def check(self, log, lines):
        result = log_lines(log)
        self.assertIs(type(result), list)
        self.assertEqual(result, lines)

    def test_a_log_without_events(self):
        self.check((START,), ['watch 1 - m,n m,n m,p'])

    def test_kept_people_and_all_crews_in_order(self):
        self.check((('watch', PAIRS, ('q', 'r'), 20, ('m', 'q')),), ['watch 20 m,q q,r m,n m,p m,q n,q q,r'])
        self.check((('watch', (('a',),), ('a',), SIXTY, ('a',)),), ['watch ' + '9' * 60 + ' a a a'])

    def test_events(self):
        self.check((START, ('lose', 'p', None), ('widen', 0), ('lose', 'n', ('m', 'p')), ('back', 'n', None)),
                   ['watch 1 - m,n m,n m,p', 'lose p -', 'widen 0', 'lose n m,p', 'back n -'])

    def test_the_list_is_new(self):
        log = (START, ('widen', 3))
        first = log_lines(log=log)
        first.append('more')
        self.check(log, ['watch 1 - m,n m,n m,p', 'widen 3'])


if __name__ == '__main__':
    unittest.main()
