import unittest

from crewbook.errors import InvalidEvent
from crewbook.eventreadings import read_log
from crewbook.eventtexts import log_lines
from crewbook.replaying import is_log, replayed
from crewbook.watching import Watch
from tests.samples import FIVE, ODD, PAIRS, SIXTY, TWO, WIDE, CrewTest, nested, places_in, with_part

MN, MP, MQ, NQ, QR = PAIRS
START = ('watch', PAIRS, MN, 1, ('r',))
LOG = (START, ('lose', 'n', MQ), ('widen', 0), ('back', 'n', None))


class TestIsLog(unittest.TestCase):
    def test_logs(self):
        for log in (LOG, (START,), (('watch', (('a',),), ('a',), 0, ()),), (('watch', PAIRS, QR, SIXTY, FIVE),),
                    (('watch', WIDE, WIDE[-1], 1, ()), ('lose', 'x', ('a', 'p', 'q', 'y'))), (START,) + (('widen', 1),) * 500):
            self.assertIs(is_log(log), True)
            self.assertIs(is_log(thing=log), True)

    def test_names_of_events_need_not_be_people(self):
        for event in (('lose', 'z', None), ('back', 'zz', ('x', 'y')), ('lose', 'm', ('m', 'z')), ('lose', 'lose', ('back',))):
            self.assertIs(is_log((START, event)), True)

    def test_other_values(self):
        for thing in ODD + ((), nested(30), 'watch', START, list(LOG), ('watch',), LOG[1:], LOG[1:] + LOG[:1], (START, START), (None,),
                            (list(START),), (START, None), (START, []), (START, ()), (START, ['widen', 1]), (START, (LOG[1],)),
                            ((START,), LOG[1]), (START[:4],), (START + ((),),), (('watch',),), (((START,),),)):
            self.assertIs(is_log(thing), False, thing)

    def test_parts_of_the_first_element(self):
        for k, odd in ((0, 'Watch'), (0, 'widen'), (0, None), (0, True), (0, 1), (0, ('watch',)), (0, ''),
                       (1, ()), (1, (MN, MP, ('a', 'a'))), (1, PAIRS[::-1]), (1, list(PAIRS)), (1, None), (1, (MN, ('m', 'n', 'p'))),
                       (1, (MN, ())), (1, MN), (1, 'mn'), (1, (['m', 'n'],)), (2, ()), (2, ('m', 'r')), (2, ('n', 'm')), (2, ['m', 'n']),
                       (2, None), (2, 'mn'), (2, ('m',)), (2, PAIRS), (2, True), (3, -1), (3, True), (3, False), (3, None), (3, '1'),
                       (3, (1,)), (3, -SIXTY), (4, None), (4, ('z',)), (4, ('r', 'm')), (4, ('m', 'm')), (4, ['r']), (4, 'r'),
                       (4, ('R',)), (4, (('r',),)), (4, ('m', 'z'))):
            self.assertIs(is_log((with_part(START, (k,), odd),) + LOG[1:]), False, (k, odd))
        self.assertIs(is_log((('watch', (MN,), MN, 1, ('p',)),)), False)
        self.assertIs(is_log((('watch', (MN,), MN, 1, ('m',)),)), True)

    def test_parts_of_events(self):
        for event in (('lose', 'n'), ('lose', 'n', ()), ('lose', 'n', ('q', 'm')), ('lose', '', None), ('lose', 'n', MQ, None),
                      ('lost', 'n', MQ), ('widen', True), ('widen', -1), ('widen', None), ('widen', 1, 1), ('widen',), ('back', None, None),
                      ('back', 'n', ['m', 'n']), ('back', 'n', False), 'widen'):
            self.assertIs(is_log((START, event)), False)
            self.assertIs(is_log(LOG + (event,)), False)
            self.assertIs(is_log((START, event) + LOG[1:]), False)

    def test_any_value_in_any_place(self):
        results = set()
        for path in places_in(LOG):
            for odd in ODD:
                thing = with_part(LOG, path, odd)
                self.assertIs(is_log(thing), odd is None and path in ((1, 2), (3, 2)) or odd == () and path == (0, 4), (path, odd))
                results.add(is_log(thing))
        self.assertEqual(results, {True, False})


class TestReplayed(CrewTest):
    def test_a_watch_after_the_events(self):
        watch = replayed(LOG)
        self.assertEqual((watch.log(), watch.present, watch.crew, watch.width), (LOG, FIVE, MQ, 0))
        self.assertEqual((type(watch), watch.undo(), watch.width), (Watch, ('back', 'n', None), 0))
        self.assertEqual(replayed(log=(START,)), Watch(PAIRS, MN, kept=('r',)))

    def test_a_replayed_watch_is_equal_and_new(self):
        watch = Watch(PAIRS, MN, width=2)
        watch.do_all(('lose', 'n', QR), ('widen', 1), ('lose', 'm', None))
        again = replayed(watch.log())
        self.assertIs(again == watch, True)
        again.widen(7)
        self.assertIs(again == watch, False)
        self.assertEqual(watch.width, 1)

    def test_an_undone_event_is_not_replayed(self):
        watch = Watch(PAIRS, MN)
        watch.lose('n', MP)
        watch.undo()
        watch.lose('n', MQ)
        self.assertEqual(replayed(watch.log()), watch)

    def test_events_that_are_not_possible(self):
        for event, reason in ((('lose', 'n', NQ), 'answer'), (('lose', 'r', None), 'kept'), (('back', 'n', None), 'present'),
                              (('lose', 'm', None), 'answer')):
            with self.assertRaises(InvalidEvent) as caught:
                replayed((START, ('widen', 1), event, ('lose', 'z', None)))
            self.assertIs(caught.exception.event, event)
            self.assertEqual(caught.exception.reason, reason)
        self.unknown('z', replayed, (START, ('lose', 'z', None), ('lose', 'n', NQ)))
        self.unknown('y', replayed, LOG + (('lose', 'm', ('m', 'y')),))

    def test_sixty_one_events(self):
        log = (START,) + (('widen', 1),) * 60
        self.assertEqual(len(replayed(log)), 60)
        with self.assertRaises(InvalidEvent) as caught:
            replayed(log + (('widen', 2),))
        self.assertEqual((caught.exception.event, caught.exception.reason), (('widen', 2), 'full'))

    def test_a_log_that_was_written_and_read(self):
        for watch in (replayed(LOG), Watch(TWO, TWO[0], width=SIXTY), Watch(WIDE, WIDE[0], kept=('c', 'x'))):
            self.assertEqual(replayed(read_log(log_lines(watch.log()))), watch)


if __name__ == '__main__':
    unittest.main()
