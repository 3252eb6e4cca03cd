import unittest
from random import Random

from crewbook.errors import InvalidText
from crewbook.eventreadings import read_event, read_log
from crewbook.eventtexts import event_line, log_lines
from tests.samples import FIVE, PAIRS, SIXTY, WIDE, subsets

START = ('watch', (('m', 'n'), ('m', 'p')), ('m', 'n'), 1, ())
FIRST = 'watch 1 - m,n m,n m,p'
# What is no name, no set and no number.
NO_NAMES = ('', '-', 'A', 'm,n', '1', 'abcdefghi', 'm1', 'm\n')
NO_SETS = ('', '--', 'n,m', 'm,m', 'm,', ',m', 'm,,n', 'M', '1', 'm,-', '(m)', 'abcdefghi', 'm\n')
NO_NUMBERS = ('', '-', '01', '00', '-1', '+1', '1.', '1_0', 'a', '0x1', ' ', '1' + '0' * 60, '0' + '1' * 59, '1\n')


class ReadingTest(unittest.TestCase):
    def refuse(self, read, text, line, field):
        with self.assertRaises(InvalidText) as caught:
            read(text)
        error = caught.exception
        self.assertEqual((error.line, error.field), (line, field), repr(text))
        self.assertEqual((type(error.line), type(error.field)), (int, int))


class TestReadEvent(ReadingTest):
    def test_events(self):
        for text, event in (('lose n m,q', ('lose', 'n', ('m', 'q'))), ('lose p -', ('lose', 'p', None)),
                            ('back n -', ('back', 'n', None)), ('back n m,n', ('back', 'n', ('m', 'n'))),
                            ('widen 2', ('widen', 2)), ('widen 0', ('widen', 0)), ('widen 10', ('widen', 10)),
                            ('lose abcdefgh a', ('lose', 'abcdefgh', ('a',))), ('lose lose back,lose', ('lose', 'lose', ('back', 'lose'))),
                            ('back widen widen', ('back', 'widen', ('widen',)))):
            self.assertEqual(read_event(text), event)
            self.assertEqual(read_event(text=text), event)
            self.assertEqual([type(part) for part in read_event(text)], [type(part) for part in event])
            self.assertEqual(event_line(read_event(text)), text)

    def test_numbers_of_sixty_digits(self):
        self.assertEqual(read_event(f'widen {SIXTY}'), ('widen', SIXTY))
        self.refuse(read_event, f'widen {SIXTY + 1}', 0, 1)

    def test_parts_that_cannot_follow(self):
        for text, field in (
                ('', 0), (' ', 0), (' lose n -', 0), ('lost n -', 0), ('Lose n -', 0), ('loses n -', 0), ('n', 0), ('-', 0),
                ('watch 1 - m m', 0), ('undo', 0), ('\nlose n -', 0), ('lose\nn -', 0), ('lose,back n -', 0), ('NAME', 0),
                ('lose  n -', 1), ('lose n  -', 2), ('lose n - ', 3), ('lose n - -', 3), ('lose n m,q x', 3), ('back n - 1', 3),
                ('widen 2 ', 2), ('widen 2 3', 2), ('widen n', 1), ('widen n -', 1), ('lose 1 -', 1), ('lose - -', 1)):
            self.refuse(read_event, text, 0, field)
        for word in ('lose', 'back'):
            for part in NO_NAMES:
                self.refuse(read_event, f'{word} {part} -', 0, 1)
            for part in NO_SETS:
                self.refuse(read_event, f'{word} n {part}', 0, 2)
        for part in NO_NUMBERS:
            self.refuse(read_event, 'widen ' + part, 0, 1)

    def test_missing_parts(self):
        for text, field in (('lose', 1), ('back', 1), ('widen', 1), ('lose n', 2), ('back n', 2), ('lose ', 1), ('lose n ', 2),
                            ('widen ', 1)):
            self.refuse(read_event, text, 0, field)

    def test_reading_what_was_written(self):
        for word in ('lose', 'back'):
            for person in FIVE + ('lose', 'abcdefgh'):
                for crew in [None] + subsets(FIVE)[1:]:
                    self.assertEqual(read_event(event_line((word, person, crew))), (word, person, crew))
        for width in (0, 1, 9, 10, 100, SIXTY):
            self.assertEqual(read_event(event_line(('widen', width))), ('widen', width))


class TestReadLog(ReadingTest):
    def test_logs(self):
        self.assertEqual(read_log([FIRST]), (START,))
        self.assertEqual(read_log(lines=[FIRST, 'lose n m,p', 'back n -', 'widen 3']),
                         (START, ('lose', 'n', ('m', 'p')), ('back', 'n', None), ('widen', 3)))
        self.assertEqual(read_log([f'watch {SIXTY} m,q q,r m,n m,p m,q n,q q,r']), (('watch', PAIRS, ('q', 'r'), SIXTY, ('m', 'q')),))
        found = read_log([FIRST, 'widen 0'])
        self.assertEqual([type(found)] + [type(part) for part in found] + [type(part) for part in found[0]],
                         [tuple, tuple, tuple, str, tuple, tuple, int, tuple])

    def test_what_is_not_checked(self):
        self.assertEqual(read_log(['watch 1 z b a a a,b']), (('watch', (('a',), ('a',), ('a', 'b')), ('b',), 1, ('z',)),))
        self.assertEqual(read_log([FIRST, 'lose z x,y'])[1], ('lose', 'z', ('x', 'y')))
        self.assertEqual(len(read_log([FIRST] + ['widen 1'] * 100)), 101)

    def test_an_empty_list(self):
        self.refuse(read_log, [], 0, 0)

    def test_the_first_line(self):
        for line, field in (
                ('', 0), ('lose n -', 0), ('widen 1', 0), ('Watch 1 - m m', 0), (' watch 1 - m m', 0), ('watch', 1), ('watch 1', 2),
                ('watch 1 -', 3), ('watch 1 - m', 4), ('watch  1 - m m', 1), ('watch 1 - m m ', 5), ('watch 1 - m  m', 4),
                ('watch 1 - - m', 3), ('watch 1 - m -', 4), ('watch 1 - m m -', 5), ('watch 1 - m m n -', 6), ('watch - 1 m m', 1),
                ('watch 1 - m m 1', 5), ('watch 1 - m m n,m', 5), ('watch 1 1 m m', 2), ('watch 1 m', 3), ('watch 1 - m ', 4)):
            self.refuse(read_log, [line], 0, field)
            self.refuse(read_log, [line, 'nothing'], 0, field)
        for part in NO_NUMBERS:
            self.refuse(read_log, [f'watch {part} - m m'], 0, 1)
        for part in NO_SETS:
            self.refuse(read_log, [f'watch 1 {part} m m'], 0, 2)
        for part in NO_SETS + ('-',):
            self.refuse(read_log, [f'watch 1 - {part} m'], 0, 3)
            self.refuse(read_log, [f'watch 1 - m {part}'], 0, 4)
            self.refuse(read_log, [f'watch 1 - m m {part} m'], 0, 5)

    def test_later_lines(self):
        for line, field in (('', 0), (FIRST, 0), ('lose n', 2), ('lose n - -', 3), ('widen 01', 1), ('back', 1), ('back  n -', 1)):
            self.refuse(read_log, [FIRST, line], 1, field)
            self.refuse(read_log, [FIRST, 'lose n -', line, 'nothing'], 2, field)
            self.refuse(read_log, [FIRST] + ['widen 1'] * 70 + [line], 71, field)

    def test_reading_what_was_written(self):
        rnd = Random(151)
        for _ in range(200):
            crews = rnd.choice((PAIRS, WIDE, (('a',),)))
            people = sorted({person for crew in crews for person in crew})
            kept = tuple(sorted(rnd.sample(people, rnd.randint(0, len(people)))))
            log = (('watch', crews, rnd.choice(crews), rnd.choice((0, 1, 10, SIXTY)), kept),) + tuple(
                rnd.choice((('widen', rnd.randint(0, 99)), ('lose', rnd.choice(people), rnd.choice(crews + (None,))),
                            ('back', rnd.choice(people), rnd.choice(crews + (None,))))) for _ in range(rnd.randint(0, 9)))
            lines = log_lines(log)
            self.assertEqual(read_log(lines), log)
            self.assertEqual(log_lines(read_log(lines)), lines)

    def test_the_list_is_not_changed(self):
        for lines in ([FIRST, 'lose n -'], [FIRST, 'nothing'], []):
            before = list(lines)
            try:
                read_log(lines)
            except InvalidText:
                pass
            self.assertEqual(lines, before)


if __name__ == '__main__':
    unittest.main()
