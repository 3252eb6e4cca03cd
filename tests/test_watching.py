import unittest

from crewbook.errors import CrewError, InvalidEvent, InvalidWidth, NothingToUndo
from crewbook.lists import Crews
from crewbook.replaying import replayed
from crewbook.watching import Watch
from tests.samples import ALL, BIG, FIVE, FOUR, ODD, PAIRS, SIXTY, TWO, WIDE, CrewTest, nested, people_in

MN, MP, MQ, NQ, QR = PAIRS
AB, AC = TWO
# Values that are no event by kind.
NO_EVENTS = ODD + (
    (), nested(30), 'lose', 'widen 2', ('lose',), ('lose', 'n'), ('lose', 'n', MP, None), ['lose', 'n', MP], ('lose', 'N', MP),
    ('lose', None, None), ('lose', 1, None), ('lose', ('n',), None), ('lose', 'n', ()), ('lose', 'n', ('p', 'm')),
    ('lose', 'n', ('m', 'm')), ('lose', 'n', ['m', 'p']), ('lose', 'n', 'mp'), ('lose', 'n', False), ('lose', 'n', 0),
    ('lose', 'n', ('M', 'p')), ('lose', 'n', (('m', 'p'),)), ('lost', 'n', MP), ('back',), ('back', 'n'), ('back', 'n', ()),
    ('back', '', None), ('back', 'n', ('q', 'n')), ('widen',), ('widen', True), ('widen', False), ('widen', -1), ('widen', '2'),
    ('widen', None), ('widen', (2,)), ('widen', 2, None), ('widen', 'n', None), (True, 'n', None), (1, 2), ('lose', 2), ('n', 'lose', None),
)


def watch_of(crew=MN, *events, crews=PAIRS, width=1, kept=()):
    watch = Watch(crews, crew, width=width, kept=kept)
    for event in events:
        watch.go(event)
    return watch


def full_watch():
    return watch_of(MN, *[('widen', 1)] * 60)


class WatchTest(CrewTest):
    def unable(self, reason, event, call, *arguments):
        """Check that the call is refused with the event, or with this very event, and the reason."""
        with self.assertRaises(InvalidEvent) as caught:
            call(*arguments)
        self.assertEqual((caught.exception.event, caught.exception.reason), (event, reason))
        return caught.exception

    def reports(self, watch):
        return (watch.present, watch.crew, watch.width, watch.is_calm, watch.is_careless, watch.judge(), watch.log(), len(watch),
                str(watch))


class TestStart(WatchTest):
    def test_a_watch_without_events(self):
        watch = Watch(PAIRS, MN)
        self.assertEqual(self.reports(watch), (FIVE, MN, 1, True, False, None, (('watch', PAIRS, MN, 1, ()),), 0, '-'))
        self.assertEqual(watch.counts(), (0, 0))
        self.assertEqual((Watch.MOST, watch.MOST), (60, 60))

    def test_arguments(self):
        watch = Watch(crews=WIDE, crew=BIG, width=3, kept=('a', 'q'))
        self.assertEqual((watch.present, watch.crew, watch.width), (ALL, BIG, 3))
        self.assertEqual(watch.log(), (('watch', WIDE, BIG, 3, ('a', 'q')),))
        self.by_name_only(Watch, PAIRS, MN, 1)
        self.assertEqual(Watch(PAIRS, MN, width=0).width, 0)
        self.assertEqual(Watch(PAIRS, MN, width=SIXTY).width, SIXTY)

    def test_unknown_people(self):
        self.unknown('w', Watch, PAIRS, ('m', 'w', 'x'), kept=('z',))
        self.unknown('y', Watch, PAIRS, MN, kept=('m', 'y', 'z'))
        self.unknown('z', Watch, PAIRS, MN, width=2, kept=('z',))

    def test_properties_cannot_be_assigned_but_width(self):
        watch = Watch(PAIRS, MN)
        for name in ('present', 'crew', 'is_calm', 'is_careless'):
            with self.assertRaises(AttributeError):
                setattr(watch, name, None)


class TestLoss(WatchTest):
    def test_example_of_the_document(self):
        watch = Watch(PAIRS, MN)
        self.assertEqual(watch.lose('n', MP), MP)
        self.unable('stuck', ('lose', 'm', None), watch.lose, 'm')

    def test_the_crew_stays(self):
        watch = Watch(PAIRS, MN)
        self.assertEqual(watch.lose('p'), MN)
        self.assertEqual(watch.lose(person='q', answer=None), MN)
        self.assertEqual((watch.present, watch.crew, watch.width), (('m', 'n', 'r'), MN, 1))

    def test_an_answer_takes_over(self):
        watch = Watch(PAIRS, MN)
        self.assertEqual(watch.lose('n', MQ), MQ)
        self.assertEqual(watch.lose('m', answer=QR), QR)
        self.assertEqual((watch.present, watch.crew), (('p', 'q', 'r'), QR))

    def test_the_duty_is_over(self):
        watch = watch_of(MN, ('lose', 'p', None), ('lose', 'q', None))
        self.assertIsNone(watch.lose('m'))
        self.assertEqual((watch.present, watch.crew, watch.is_calm, watch.is_careless), (('n', 'r'), None, True, True))
        self.assertIsNone(watch.lose('r'))
        self.assertIsNone(watch.lose('n'))
        self.assertEqual((watch.present, watch.crew), ((), None))

    def test_answer(self):
        for answer in (None, MN, NQ, QR, ('m',), ('m', 'n', 'p'), FIVE):
            self.unable('answer', ('lose', 'n', answer), Watch(PAIRS, MN).lose, 'n', answer)
        for answer in PAIRS + (('p',), FIVE):
            self.unable('answer', ('lose', 'p', answer), Watch(PAIRS, MN).lose, 'p', answer)
            # The loss ends the duty, or it is over already.
            watch = watch_of(MN, ('lose', 'p', None), ('lose', 'q', None))
            self.unable('answer', ('lose', 'm', answer), watch.lose, 'm', answer)
            watch.lose('m')
            self.unable('answer', ('lose', 'r', answer), watch.lose, 'r', answer)
        self.assertEqual(watch_of(width=2).lose('n', QR), QR)

    def test_stuck(self):
        for answer in (None, MP, QR, MQ):
            watch = watch_of(MN, ('lose', 'n', MP))
            self.unable('stuck', ('lose', 'm', answer), watch.lose, 'm', answer)
        self.assertEqual(watch_of(MN, ('lose', 'n', MP), ('widen', 2)).lose('m', QR), QR)

    def test_absent_and_kept(self):
        watch = watch_of(MN, ('lose', 'p', None), kept=('m', 'q'))
        for answer in (None, MQ, MN, ('p', 'q')):
            self.unable('absent', ('lose', 'p', answer), watch.lose, 'p', answer)
            self.unable('kept', ('lose', 'm', answer), watch.lose, 'm', answer)
            self.unable('kept', ('lose', 'q', answer), watch.lose, 'q', answer)

    def test_kept_people_while_the_duty_is_over(self):
        watch = watch_of(AB, ('lose', 'a', None), crews=TWO, kept=('c',))
        self.assertIsNone(watch.crew)
        self.unable('kept', ('lose', 'c', None), watch.lose, 'c')
        self.unable('absent', ('lose', 'a', None), watch.lose, 'a')
        self.assertIsNone(watch.lose('b'))

    def test_who_left_an_earlier_crew_counts_again(self):
        watch = watch_of(BIG, crews=WIDE)
        self.unable('answer', ('lose', 'x', ('a', 'r', 's', 'x')), watch.lose, 'x', ('a', 'r', 's', 'x'))
        self.assertEqual(watch.lose('x', ('a', 'p', 'q', 'y')), ('a', 'p', 'q', 'y'))
        self.unable('answer', ('lose', 'y', ('a', 'c', 'r')), watch.lose, 'y', ('a', 'c', 'r'))
        self.assertEqual(watch.lose('y', ('a', 'c', 'p')), ('a', 'c', 'p'))


class TestReturn(WatchTest):
    def test_the_crew_stays(self):
        watch = watch_of(MN, ('lose', 'p', None))
        self.assertEqual(watch.back('p'), MN)
        self.assertEqual((watch.present, watch.crew), (FIVE, MN))
        watch.lose('n', MQ)
        self.assertEqual(watch.back(person='n', crew=None), MQ)

    def test_present(self):
        watch = watch_of(MN, ('lose', 'p', None))
        for crew in (None, MN, MP):
            self.unable('present', ('back', 'm', crew), watch.back, 'm', crew)
        self.assertEqual(watch.back('p'), MN)
        self.unable('present', ('back', 'p', None), watch.back, 'p')

    def test_no_crew_may_take_over_from_a_crew(self):
        watch = watch_of(MN, ('lose', 'p', None))
        for crew in PAIRS + (('m',), FIVE):
            self.unable('answer', ('back', 'p', crew), watch.back, 'p', crew)

    def test_a_crew_takes_over_when_the_duty_was_over(self):
        watch = watch_of(MN, ('lose', 'q', None), ('lose', 'p', None), ('lose', 'n', None))
        self.assertIsNone(watch.crew)
        for crew in (None, MN, NQ, MP, ('m',), FIVE):
            self.unable('answer', ('back', 'q', crew), watch.back, 'q', crew)
        for crew, width in ((MQ, 1), (QR, 0)):
            again = replayed(watch.log() + (('widen', width),))
            # Any crew that is left will do, whatever the width.
            self.assertEqual(again.back('q', crew), crew)
            self.assertEqual((again.present, again.crew), (('m', 'q', 'r'), crew))

    def test_the_duty_stays_over(self):
        watch = watch_of(MN, ('lose', 'q', None), ('lose', 'p', None), ('lose', 'n', None), ('lose', 'm', None))
        for crew in PAIRS:
            self.unable('answer', ('back', 'p', crew), watch.back, 'p', crew)
        self.assertIsNone(watch.back('p'))
        self.assertEqual((watch.present, watch.crew), (('p', 'r'), None))
        self.assertEqual(watch.back('m', MP), MP)

    def test_kept_people_are_never_away(self):
        self.unable('present', ('back', 'm', None), watch_of(kept=('m',)).back, 'm')


class TestWidth(WatchTest):
    def test_widen(self):
        watch = Watch(PAIRS, MN)
        self.assertEqual(watch.widen(2), MN)
        self.assertEqual((watch.width, watch.is_careless), (2, True))
        self.assertEqual(watch.widen(width=0), MN)
        self.assertEqual((watch.width, watch.is_calm, watch.is_careless), (0, False, False))
        self.assertEqual(watch.widen(0), MN)
        self.assertEqual(watch.log()[1:], (('widen', 2), ('widen', 0), ('widen', 0)))
        self.assertEqual(watch.widen(SIXTY), MN)
        self.assertEqual(watch.width, SIXTY)

    def test_while_the_duty_is_over(self):
        watch = watch_of(AB, ('lose', 'a', None), crews=TWO)
        self.assertIsNone(watch.widen(5))
        watch.width = 3
        self.assertEqual((watch.width, watch.crew, watch.is_calm, watch.is_careless), (3, None, True, True))

    def test_widen_with_other_values(self):
        for value in (True, False, None, -1, '1', '', (1,), [1], -SIXTY):
            watch = Watch(PAIRS, MN)
            error = self.unable('shape', ('widen', value), watch.widen, value)
            self.assertIs(error.event[1], value)
            self.assertEqual(watch.counts(), (1, 1))

    def test_assignments(self):
        watch = Watch(PAIRS, MN)
        watch.width = 4
        self.assertEqual((watch.width, watch.log()[1:], watch.counts()), (4, (('widen', 4),), (1, 1)))
        watch.width -= 4
        self.assertEqual((watch.width, watch.log()[1:], watch.counts()), (0, (('widen', 4), ('widen', 0)), (2, 2)))
        self.assertEqual(watch.set_width(7), 7)
        self.assertEqual(watch.set_width(value=2), 2)
        self.assertEqual((watch.width, len(watch), watch.counts()), (2, 4, (4, 4)))

    def test_assignments_of_other_values(self):
        for many, value in enumerate((True, False, None, -1, '1', '', (1,), [1], ('widen', 1), -SIXTY)):
            for watch, before in ((Watch(PAIRS, MN), 0), (full_watch(), 60)):
                with self.assertRaises(InvalidWidth) as caught:
                    watch.width = value
                self.assertIs(caught.exception.width, value)
                with self.assertRaises(InvalidWidth) as caught:
                    watch.set_width(value)
                self.assertIs(caught.exception.width, value)
                self.assertEqual((watch.width, len(watch), watch.counts()), (1, before, (before + 2, before + 2)))

    def test_a_full_watch_refuses_a_number(self):
        watch = full_watch()
        self.unable('full', ('widen', 3), watch.set_width, 3)
        self.unable('full', ('widen', 3), setattr, watch, 'width', 3)
        self.assertEqual((watch.width, len(watch), watch.counts()), (1, 60, (62, 62)))


class TestGo(WatchTest):
    def test_events(self):
        watch = Watch(PAIRS, MN)
        self.assertEqual([watch.go(event) for event in (('lose', 'n', MQ), ('widen', 0), ('back', 'n', None))], [MQ] * 3)
        self.assertEqual(watch.go(event=('lose', 'r', None)), MQ)
        self.assertEqual(str(watch), 'lose n m,q / widen 0 / back n - / lose r -')

    def test_any_values(self):
        for event in NO_EVENTS:
            watch = Watch(PAIRS, MN)
            error = self.unable('shape', event, watch.go, event)
            self.assertIs(error.event, event)
            self.assertEqual((self.reports(watch), watch.counts()), (self.reports(Watch(PAIRS, MN)), (1, 1)))

    def test_any_values_of_lose_and_back(self):
        for value in ODD:
            for word, call in (('lose', Watch.lose), ('back', Watch.back)):
                watch = Watch(PAIRS, MN)
                error = self.unable('shape', (word, value, None), call, watch, value)
                self.assertIs(error.event[1], value)
                if value is not None:
                    error = self.unable('shape', (word, 'n', value), call, watch, 'n', value)
                    self.assertIs(error.event[2], value)

    def test_the_error_keeps_the_event(self):
        event = ('lose', 'n', NQ)
        self.assertIs(self.unable('answer', event, Watch(PAIRS, MN).go, event).event, event)

    def test_unknown_people(self):
        watch = watch_of(kept=('m',))
        for event, person in ((('lose', 'z', ('x', 'y')), 'z'), (('lose', 'm', ('m', 'x', 'y')), 'x'), (('lose', 'z', None), 'z'),
                              (('back', 'z', ('x', 'y')), 'z'), (('back', 'm', ('a', 'z')), 'a'), (('back', 'zz', None), 'zz')):
            self.unknown(person, watch.go, event)
        self.assertEqual((len(watch), watch.counts()), (0, (6, 6)))

    def test_full_after_shape_and_unknown_people_and_before_the_others(self):
        watch = full_watch()
        for event in NO_EVENTS:
            self.unable('shape', event, watch.go, event)
        self.unknown('z', watch.go, ('lose', 'z', None))
        self.unknown('y', watch.go, ('back', 'm', ('m', 'y')))
        for event in (('lose', 'n', MQ), ('lose', 'n', None), ('lose', 'p', MN), ('back', 'm', None), ('back', 'm', MN), ('widen', 1)):
            self.unable('full', event, watch.go, event)
        watch = replayed(watch_of(MN, ('lose', 'p', None), kept=('m',)).log() + (('widen', 1),) * 59)
        for event in (('lose', 'p', None), ('lose', 'm', None), ('back', 'p', MN)):
            self.unable('full', event, watch.go, event)
        self.assertEqual(len(watch), 60)

    def test_shape_before_unknown_people(self):
        self.unable('shape', ('lose', 'z', ('y', 'x')), Watch(PAIRS, MN).go, ('lose', 'z', ('y', 'x')))

    def test_sixty_events(self):
        watch = Watch(PAIRS, MN)
        for many in range(60):
            self.assertEqual(len(watch), many)
            self.assertEqual(watch.widen(many), MN)
        self.unable('full', ('widen', 60), watch.widen, 60)
        self.assertEqual(watch.undo(), ('widen', 59))
        self.assertEqual(watch.lose('n', QR), QR)
        self.unable('full', ('lose', 'n', None), watch.lose, 'n')

    def test_a_refused_event_changes_nothing(self):
        watch = watch_of(MN, ('lose', 'n', MP))
        before = self.reports(watch)
        for event in (('lose', 'm', None), ('lose', 'z', None), None, ('lose', 'n', None), ('back', 'm', None), ('back', 'n', MN)):
            with self.assertRaises(CrewError):
                watch.go(event)
            self.assertEqual(self.reports(watch), before)


class TestCalm(WatchTest):
    def test_example_of_the_document(self):
        watch = Watch(PAIRS, MN)
        watch.lose('n', MP)
        self.assertEqual([watch.judge(), watch.is_calm], [0, False])

    def test_calm_and_careless(self):
        for width, careless in ((1, True), (2, False), (3, True)):
            watch = Watch(WIDE, BIG, width=width)
            self.assertEqual((watch.is_calm, watch.is_careless), (True, careless))
        self.assertEqual((Watch(PAIRS, MP).is_calm, Watch(PAIRS, MP).is_careless), (False, False))
        self.assertEqual((Watch(PAIRS, MP, kept=('m',)).is_calm, Watch(PAIRS, MP, width=2).is_careless), (True, True))

    def test_kept(self):
        watch = Watch(FOUR, FOUR[0], kept=('a', 'b'))
        self.assertEqual((watch.is_calm, watch.is_careless), (True, True))
        watch.lose('c')
        self.assertEqual((watch.is_calm, watch.is_careless), (True, True))

    def test_judge(self):
        self.assertIsNone(Watch(PAIRS, MN).judge())
        watch = watch_of(MN, ('lose', 'r', None), ('lose', 'n', MQ), ('widen', 0), ('widen', 1), ('back', 'r', None))
        self.assertEqual((watch.judge(), watch.is_calm), (2, True))
        watch = watch_of(MN, ('widen', 0), ('widen', 1), ('lose', 'n', MP))
        self.assertEqual((watch.judge(), watch.is_calm), (0, False))
        watch = watch_of(MN, ('widen', 2), ('lose', 'n', MP), ('lose', 'r', None), ('widen', 1))
        self.assertEqual((watch.judge(), watch.is_calm), (None, True))
        watch.back('r')
        self.assertEqual((watch.judge(), watch.is_calm), (4, False))
        watch.lose('r')
        self.assertEqual((watch.judge(), watch.is_calm), (4, True))

    def test_judge_after_an_undo(self):
        watch = watch_of(MN, ('lose', 'r', None), ('back', 'r', None), ('lose', 'n', MP))
        self.assertEqual(watch.judge(), 2)
        watch.undo()
        self.assertIsNone(watch.judge())
        watch.lose('n', MQ)
        self.assertIsNone(watch.judge())
        watch.undo()
        watch.widen(0)
        self.assertEqual(watch.judge(), 2)

    def test_judge_where_the_first_situation_is_not_calm(self):
        self.assertIsNone(Watch(PAIRS, MP).judge())
        watch = watch_of(MP, ('widen', 2), ('widen', 1))
        self.assertEqual((watch.judge(), watch.is_calm), (None, False))

    def test_judge_of_a_duty_that_is_over(self):
        watch = watch_of(AB, ('lose', 'a', None), ('widen', 0), ('back', 'a', AB), crews=TWO)
        self.assertEqual((watch.judge(), watch.is_calm), (2, False))
        watch = watch_of(AB, ('lose', 'a', None), ('widen', 0), crews=TWO)
        self.assertEqual((watch.judge(), watch.is_calm), (None, True))


class TestAdvice(WatchTest):
    def test_example_of_the_document(self):
        watch = Watch(PAIRS, MN)
        self.assertEqual([watch.advice('n'), watch.advice('p')], [MQ, 'stays'])
        self.assertEqual(watch.advice(person='m'), NQ)

    def test_no_calm_answer(self):
        watch = watch_of(MN, ('lose', 'n', MP))
        self.assertEqual([watch.advice(person) for person in ('m', 'p', 'q', 'r')], [None, MQ, 'stays', 'stays'])
        self.assertIsNone(watch_of(width=0).advice('n'))

    def test_over(self):
        watch = watch_of(AB, crews=TWO)
        self.assertEqual([watch.advice(person) for person in 'abc'], ['over', AC, 'stays'])
        watch.lose('c')
        self.assertEqual([watch.advice(person) for person in 'ab'], ['over', 'over'])
        watch.lose('b')
        self.assertEqual(watch.advice('a'), 'over')

    def test_absent_and_kept(self):
        watch = watch_of(AB, ('lose', 'b', AC), crews=TWO, kept=('c',))
        self.unable('absent', ('lose', 'b', None), watch.advice, 'b')
        self.unable('kept', ('lose', 'c', None), watch.advice, 'c')
        watch.lose('a')
        self.assertIsNone(watch.crew)
        self.unable('absent', ('lose', 'b', None), watch.advice, 'b')
        self.unable('absent', ('lose', 'a', None), watch.advice, 'a')
        self.unable('kept', ('lose', 'c', None), watch.advice, 'c')

    def test_unknown_people(self):
        watch = watch_of(AB, ('lose', 'a', None), crews=TWO)
        for person in ('x', '', 'A', None, 1, True, ('a',), ['a']):
            self.unknown(person, watch.advice, person)
            self.unknown(person, watch_of(kept=('m',)).advice, person)

    def test_nothing_changes(self):
        watch = watch_of(MN, ('lose', 'r', None))
        before = self.reports(watch)
        for person in ('m', 'n', 'p', 'r', 'z'):
            try:
                watch.advice(person)
            except CrewError:
                pass
        self.assertEqual((self.reports(watch), watch.counts()), (before, (1, 1)))

    def test_a_full_watch_gives_advice(self):
        self.assertEqual(full_watch().advice('n'), MQ)

    def test_other_widths_and_kept_people(self):
        self.assertIn(watch_of(kept=('m',)).advice('n'), (MP, MQ))
        self.assertIsNone(watch_of(crews=(MN, MP, QR)).advice('n'))
        self.assertEqual(watch_of(crews=(MN, MP, QR), kept=('m', 'p')).advice('n'), MP)
        self.assertIn(watch_of(width=2).advice('n'), (MP, MQ, QR))


class TestTried(WatchTest):
    def test_example_of_the_document(self):
        watch = Watch(PAIRS, MN)
        self.assertEqual(watch.tried(('lose', 'n', MQ), ('lose', 'm', QR)),
                         ((('m', 'p', 'q', 'r'), MQ), (('p', 'q', 'r'), QR)))
        self.assertEqual((self.reports(watch), watch.counts()), (self.reports(Watch(PAIRS, MN)), (0, 0)))

    def test_no_events(self):
        self.assertEqual(Watch(PAIRS, MN).tried(), ())

    def test_events_of_all_kinds(self):
        watch = watch_of(AB, ('lose', 'c', None), crews=TWO)
        self.assertEqual(watch.tried(('widen', 0), ('lose', 'a', None), ('back', 'c', None), ('back', 'a', AC), ('lose', 'b', None)),
                         ((('a', 'b'), AB), (('b',), None), (('b', 'c'), None), (('a', 'b', 'c'), AC), (('a', 'c'), AC)))
        self.assertEqual((watch.present, watch.crew, watch.width, len(watch)), (('a', 'b'), AB, 1, 1))

    def test_an_event_that_is_not_possible(self):
        watch = watch_of(MN, ('lose', 'r', None))
        before = self.reports(watch)
        event = ('lose', 'm', None)
        self.assertIs(self.unable('answer', event, watch.tried, event, None).event, event)
        self.unable('stuck', ('lose', 'm', None), watch_of().tried, ('lose', 'n', MP), ('lose', 'm', None), ('lose', 'z', None))
        self.unable('answer', ('lose', 'm', QR), watch.tried, ('lose', 'n', MQ), ('lose', 'm', QR), ('lose', 'p', None))
        self.unknown('z', watch.tried, ('lose', 'n', MQ), ('lose', 'z', None), 'nothing')
        for thing in (None, 'lose', [], ('lose', 'm', ())):
            self.assertIs(self.unable('shape', thing, watch.tried, ('widen', 2), thing).event, thing)
        self.assertEqual((self.reports(watch), watch.counts()), (before, (1, 1)))

    def test_full_counts_the_events_tried_before(self):
        watch = watch_of(MN, *[('widen', 1)] * 58)
        self.assertEqual(len(watch.tried(('widen', 2), ('widen', 3))), 2)
        self.unable('full', ('widen', 4), watch.tried, ('widen', 2), ('widen', 3), ('widen', 4))
        self.unable('shape', ('widen', -1), watch.tried, ('widen', 2), ('widen', 3), ('widen', -1))
        self.unable('full', ('lose', 'n', None), full_watch().tried, ('lose', 'n', None))
        self.assertEqual(full_watch().tried(), ())
        self.assertEqual(len(Watch(PAIRS, MN).tried(*[('widen', 1)] * 60)), 60)
        self.unable('full', ('widen', 1), Watch(PAIRS, MN).tried, *[('widen', 1)] * 61)
        self.assertEqual(len(watch), 58)


class TestUndo(WatchTest):
    def test_undo(self):
        watch = watch_of(MN, ('lose', 'n', MQ), ('lose', 'm', QR), ('back', 'n', None), ('widen', 0))
        reports = []
        for expected in (('widen', 0), ('back', 'n', None), ('lose', 'm', QR), ('lose', 'n', MQ)):
            self.assertEqual(watch.undo(), expected)
            reports.append((watch.present, watch.crew, watch.width, len(watch)))
        self.assertEqual(reports, [(('n', 'p', 'q', 'r'), QR, 1, 3), (('p', 'q', 'r'), QR, 1, 2), (('m', 'p', 'q', 'r'), MQ, 1, 1),
                                   (FIVE, MN, 1, 0)])
        self.assertEqual(watch, Watch(PAIRS, MN))

    def test_nothing_to_undo(self):
        watch = Watch(PAIRS, MN)
        for many in range(1, 3):
            with self.assertRaises(NothingToUndo) as caught:
                watch.undo()
            self.assertEqual((caught.exception.steps, type(caught.exception.steps)), (0, int))
            self.assertEqual((len(watch), watch.counts()), (0, (many, many)))

    def test_after_the_duty_was_over(self):
        watch = watch_of(AB, ('lose', 'a', None), crews=TWO)
        self.assertEqual(watch.undo(), ('lose', 'a', None))
        self.assertEqual((watch.present, watch.crew), (('a', 'b', 'c'), AB))


class TestDoAll(WatchTest):
    def test_example_of_the_document(self):
        watch = Watch(PAIRS, MN)
        count = watch.do_all(('lose', 'r', None), ('widen', 2))
        self.assertEqual([count, watch.undo(), watch.counts()], [2, ('widen', 2), (2, 2)])

    def test_no_events(self):
        watch = Watch(PAIRS, MN)
        self.assertEqual((watch.do_all(), watch.do_all(keep=True), watch.counts(), len(watch)), (0, 0, (2, 2), 0))

    def test_an_event_that_is_not_possible(self):
        events = (('lose', 'n', MQ), ('widen', 2), ('lose', 'q', None), ('widen', 3))
        for keep, expected in ((False, ()), (True, events[:2])):
            watch = watch_of(MN, ('lose', 'r', None))
            with self.assertRaises(InvalidEvent) as caught:
                watch.do_all(*events, keep=keep)
            self.assertIs(caught.exception.event, events[2])
            self.assertEqual(caught.exception.reason, 'answer')
            self.assertEqual((watch, watch.counts()), (watch_of(MN, ('lose', 'r', None), *expected), (2, 2)))
            self.assertEqual(self.reports(watch), self.reports(watch_of(MN, ('lose', 'r', None), *expected)))

    def test_other_errors(self):
        for thing in (None, 'lose', ('lose', 'n', ()), ['widen', 1]):
            for keep in (False, True):
                watch = Watch(PAIRS, MN)
                with self.assertRaises(InvalidEvent) as caught:
                    watch.do_all(('widen', 3), thing, keep=keep)
                self.assertIs(caught.exception.event, thing)
                self.assertEqual((len(watch), watch.width, watch.counts()), ((1, 3) if keep else (0, 1)) + ((1, 1),))
                self.unknown('z', lambda: watch.do_all(('widen', 4), ('lose', 'z', None), keep=keep))
                self.assertEqual((len(watch), watch.width), (2, 4) if keep else (0, 1))

    def test_the_first_event_is_not_possible(self):
        for keep in (False, True):
            watch = watch_of(MN, ('lose', 'r', None))
            with self.assertRaises(InvalidEvent):
                watch.do_all(('lose', 'r', None), ('lose', 'p', None), keep=keep)
            self.assertEqual((watch, watch.counts()), (watch_of(MN, ('lose', 'r', None)), (2, 2)))

    def test_beyond_most(self):
        for keep, expected in ((False, 58), (True, 60)):
            watch = watch_of(MN, *[('widen', 1)] * 58)
            with self.assertRaises(InvalidEvent) as caught:
                watch.do_all(('widen', 2), ('widen', 3), ('widen', 4), ('widen', 5), keep=keep)
            self.assertEqual((caught.exception.event, caught.exception.reason), (('widen', 4), 'full'))
            self.assertEqual((len(watch), watch.width, watch.counts()), (expected, 3 if keep else 1, (59, 59)))
        watch = Watch(PAIRS, MN)
        self.assertEqual(watch.do_all(*[('widen', 1)] * 60), 60)
        self.assertEqual(watch.counts(), (1, 1))

    def test_undo_after_it(self):
        watch = Watch(PAIRS, MN)
        watch.do_all(('lose', 'n', MQ), ('lose', 'm', QR))
        self.assertEqual((watch.undo(), watch.crew, watch.undo(), watch.crew), (('lose', 'm', QR), MQ, ('lose', 'n', MQ), MN))

    def test_keep_is_passed_by_name(self):
        watch = Watch(PAIRS, MN)
        with self.assertRaises(InvalidEvent):
            watch.do_all(('widen', 2), True)
        self.assertEqual(len(watch), 0)


class TestCounts(WatchTest):
    def test_each_operation_counts_once(self):
        watch = Watch(PAIRS, MN)
        calls = (
            lambda: watch.lose('r'), lambda: watch.lose('r'), lambda: watch.lose('z'), lambda: watch.lose(None),
            lambda: watch.back('r'), lambda: watch.back('r'), lambda: watch.widen(2), lambda: watch.widen(None),
            lambda: watch.go(('lose', 'r', None)), lambda: watch.go(None), lambda: watch.undo(),
            lambda: watch.do_all(('widen', 3), ('widen', 4)), lambda: watch.do_all(('widen', 3), None, keep=True),
            lambda: watch.do_all(), lambda: setattr(watch, 'width', 5), lambda: setattr(watch, 'width', None),
            lambda: watch.set_width(5), lambda: watch.set_width(True), lambda: watch.do_all(None))
        for many, call in enumerate(calls, start=1):
            try:
                call()
            except CrewError:
                pass
            self.assertEqual(watch.counts(), (many, many))

    def test_other_calls_do_not_count(self):
        watch = watch_of(MN, ('lose', 'r', None))
        self.reports(watch)
        watch.tried(('widen', 2))
        watch.advice('m')
        self.assertEqual((watch == Watch(PAIRS, MN), watch.counts()), (False, (1, 1)))
        with self.assertRaises(InvalidEvent):
            watch.tried(None)
        self.assertEqual([type(part) for part in watch.counts()] + [type(watch.counts())], [int, int, tuple])


class TestLog(WatchTest):
    def test_log(self):
        events = (('lose', 'n', MQ), ('widen', 0), ('back', 'n', None))
        watch = watch_of(MN, *events, kept=('r',))
        self.assertEqual(watch.log(), (('watch', PAIRS, MN, 1, ('r',)),) + events)
        self.assertEqual([type(part) for part in watch.log()] + [type(watch.log())], [tuple] * 5)
        self.assertEqual(len(watch), 3)
        self.assertEqual(str(watch), 'lose n m,q / widen 0 / back n -')

    def test_an_empty_watch_has_length_zero(self):
        self.assertEqual((len(Watch(PAIRS, MN)), str(Watch(PAIRS, MN))), (0, '-'))
        self.assertEqual(str(watch_of(MN, ('widen', 12))), 'widen 12')

    def test_a_kept_log_does_not_change(self):
        watch = watch_of(MN, ('lose', 'n', MQ))
        log = watch.log()
        watch.undo()
        watch.widen(3)
        self.assertEqual(log, (('watch', PAIRS, MN, 1, ()), ('lose', 'n', MQ)))


class TestEqual(WatchTest):
    def test_equal_logs(self):
        events = (('lose', 'n', MQ), ('widen', 3))
        self.assertIs(watch_of(MN, *events) == watch_of(MN, *events), True)
        self.assertIs(watch_of(MN, *events) != watch_of(MN, *events), False)
        one, other = watch_of(MN, ('widen', 1)), watch_of(MN, ('widen', 1), ('widen', 2))
        self.assertIs(one == other, False)
        other.undo()
        # The counts differ, but not the logs.
        self.assertIs(one == other, True)

    def test_one_element_differs(self):
        watch = watch_of(MN, ('lose', 'n', MQ), ('widen', 3))
        for other in (watch_of(MN, ('lose', 'n', MP), ('widen', 3)), watch_of(MN, ('lose', 'n', MQ), ('widen', 2)),
                      watch_of(MN, ('lose', 'n', MQ)), watch_of(MN, ('widen', 3), ('lose', 'n', MQ)),
                      watch_of(MN, ('lose', 'n', MQ), ('widen', 3), width=2), Watch(PAIRS, MN),
                      watch_of(MN, ('lose', 'n', MQ), ('widen', 3), kept=('r',)), watch_of(MN, ('lose', 'n', MQ), ('widen', 3), ('widen', 3)),
                      watch_of(MN, ('lose', 'n', MQ), ('widen', 3), crews=PAIRS + (('r', 's'),))):
            self.assertIs(watch == other, False)
            self.assertIs(other == watch, False)
            self.assertIs(watch != other, True)
        self.assertIs(Watch(PAIRS, MN) == Watch(PAIRS, MP), False)
        # The same situation by other events is another log.
        self.assertIs(watch_of(MN, ('lose', 'p', None), ('back', 'p', None)) == Watch(PAIRS, MN), False)

    def test_one_element_differs_in_its_kind_alone(self):
        self.assertIs(Watch(PAIRS, MN, width=True) == Watch(PAIRS, MN, width=1), False)
        self.assertIs(Watch(PAIRS, MN, width=1) == Watch(PAIRS, MN, width=True), False)
        self.assertIs(Watch(PAIRS, MN, width=False) == Watch(PAIRS, MN, width=0), False)
        self.assertIs(Watch(PAIRS, MN, width=True) == Watch(PAIRS, MN, width=True), True)
        self.assertIs(Watch(PAIRS, MN, kept=['r']) == Watch(PAIRS, MN, kept=('r',)), False)

    def test_values_that_are_no_watch(self):
        watch = Watch(PAIRS, MN)
        for thing in ODD + (watch.log(), str(watch), PAIRS, Crews(*PAIRS), 0, '-', object()):
            self.assertIs(watch == thing, False)
            self.assertIs(watch != thing, True)

    def test_derived_watches(self):
        class Other(Watch):
            pass
        self.assertIs(Other(PAIRS, MN) == Watch(PAIRS, MN), True)
        self.assertIs(Watch(PAIRS, MN) == Other(PAIRS, MP), False)


class TestSafeWatch(WatchTest):
    def test_losses_answered_by_advice_stay_calm(self):
        for crews, crew in ((PAIRS, MN), (WIDE, BIG), (TWO, AB)):
            for first in people_in(crews):
                watch = Watch(crews, crew)
                for person in (first,) + tuple(other for other in people_in(crews) if other != first):
                    advice = watch.advice(person)
                    self.assertIsNotNone(advice)
                    watch.lose(person, None if isinstance(advice, str) else advice)
                    self.assertIs(watch.is_calm, True)
                self.assertEqual((watch.judge(), watch.present, watch.crew), (None, (), None))


if __name__ == '__main__':
    unittest.main()
