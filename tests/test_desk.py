import unittest
from random import Random

from crewbook import errors
from crewbook.desk import Desk
from crewbook.errors import InvalidEvent, InvalidRow, NothingToUndo, UnknownPerson
from crewbook.eventreadings import read_event
from crewbook.eventtexts import event_line, log_lines
from crewbook.watching import Watch
from tests.samples import PAIRS, SIXTY, people_in, random_crews

FIRST = 'watch 1 - m,n m,n m,p m,q n,q q,r'
WORDS = ('undo', 'count', 'log', 'present', 'crew', 'width', 'calm', 'careless', 'judge', 'advice n', 'advice z')
# Rows that are no form.
NO_ROWS = (
    '', ' ', '-', 'ok', 'undo ', ' undo', 'undo 1', 'Undo', 'UNDO', 'undo\n', 'undos', 'len', 'counts', 'count -', 'log -', 'is_calm',
    'calm n', 'advice', 'advice ', 'advice  n', 'advice n ', 'advice n m', 'advice -', 'advice N', 'advice 1', 'advice m,n',
    'advice abcdefghi', 'advise n', 'lose', 'lose n', 'lose n ', 'lose  n -', 'lose n - -', 'lose n m,', 'lose n n,m', 'lose N -', 'back',
    'back n', 'back n - ', 'widen', 'widen 01', 'widen -1', 'widen n', 'widen 1 1', f'widen {SIXTY + 1}', 'watch', 'watch 1', 'watch 1 -',
    'watch 1 - m,n', 'watch 1 - m,n ', 'watch 01 - m,n m,n', ' watch 1 - m,n m,n', 'watch 1 - - m,n', 'watch 1 - m,n m,n -', 'Watch 1 - m m',
    'judge 0', 'present -', 'stays', 'over', 'tried', 'crew m,n', 'width 2', 'do_all')
# Lines that read_log reads, but that are not the first line of a log by kind.
NO_LOGS = ('watch 1 - m m,n', 'watch 1 - m,n n,q m,n', 'watch 1 z m,n m,n', 'watch 1 - m,n m,n m,n', 'watch 1 - m,n m,n m,n,p',
           'watch 1 - a m,n', 'watch 1 m,z m,n m,n')


def desk_of(*rows):
    desk = Desk()
    for row in rows:
        desk.say(row)
    return desk


class DeskTest(unittest.TestCase):
    def refuse(self, desk, row):
        with self.assertRaises(InvalidRow) as caught:
            desk.say(row)
        self.assertIs(caught.exception.row, row)

    def answers(self, desk, *rows):
        return [desk.say(row) for row in rows]


class TestSay(DeskTest):
    def test_example_of_the_document(self):
        desk = Desk()
        desk.say('watch 1 - m,n m,n m,q')
        self.assertEqual(self.answers(desk, 'lose n m,q', 'calm', 'log'), ['m,q', 'yes', 'lose n m,q'])

    def test_a_watch_line(self):
        self.assertEqual(Desk().say(FIRST), 'ok')
        self.assertEqual(Desk().say(row='watch 0 a a a'), 'ok')
        self.assertEqual(Desk().say(f'watch {SIXTY} - m,n m,n'), 'ok')

    def test_a_new_watch(self):
        desk = desk_of(FIRST, 'lose n m,q')
        self.assertEqual(desk.say('watch 2 b a,b a,b a,c'), 'ok')
        self.assertEqual(self.answers(desk, 'present', 'crew', 'width', 'count', 'log'), ['a,b,c', 'a,b', '2', '0', '-'])
        with self.assertRaises(InvalidEvent):
            desk.say('lose b -')

    def test_events(self):
        desk = desk_of(FIRST)
        self.assertEqual(self.answers(desk, 'lose p -', 'lose n m,q', 'widen 0', 'back n -', 'widen 2', 'lose m q,r', 'lose q -', 'back q n,q'),
                         ['m,n', 'm,q', 'm,q', 'm,q', 'm,q', 'q,r', 'over', 'n,q'])
        self.assertEqual(desk.say('log'), 'lose p - / lose n m,q / widen 0 / back n - / widen 2 / lose m q,r / lose q - / back q n,q')

    def test_reports(self):
        desk = desk_of(FIRST)
        self.assertEqual(self.answers(desk, 'count', 'log', 'present', 'crew', 'width', 'calm', 'careless', 'judge'),
                         ['0', '-', 'm,n,p,q,r', 'm,n', '1', 'yes', 'no', 'none'])
        self.assertEqual(self.answers(desk, 'lose n m,p', 'count', 'log', 'present', 'crew', 'width', 'calm', 'careless', 'judge'),
                         ['m,p', '1', 'lose n m,p', 'm,p,q,r', 'm,p', '1', 'no', 'no', '0'])
        self.assertEqual(self.answers(desk, 'widen 2', 'width', 'calm', 'careless', 'judge'), ['m,p', '2', 'yes', 'yes', '0'])

    def test_a_duty_that_is_over(self):
        desk = desk_of('watch 1 - a,b a,b a,c')
        self.assertEqual(self.answers(desk, 'lose a -', 'crew', 'present', 'calm', 'careless', 'judge', 'advice b'),
                         ['over', 'over', 'b,c', 'yes', 'yes', 'none', 'over'])
        self.assertEqual(self.answers(desk, 'widen 3', 'lose b -', 'lose c -', 'present', 'crew'), ['over', 'over', 'over', '-', 'over'])

    def test_undo(self):
        desk = desk_of(FIRST, 'lose p -', 'lose n m,q', 'widen 0')
        self.assertEqual(self.answers(desk, 'undo', 'undo', 'crew', 'undo', 'count'), ['widen 0', 'lose n m,q', 'm,n', 'lose p -', '0'])
        with self.assertRaises(NothingToUndo):
            desk.say('undo')

    def test_advice(self):
        desk = desk_of(FIRST)
        self.assertEqual(self.answers(desk, 'advice n', 'advice m', 'advice p'), ['m,q', 'n,q', 'stays'])
        self.assertEqual(self.answers(desk, 'lose n m,p', 'advice m', 'advice p', 'advice r'), ['m,p', 'none', 'm,q', 'stays'])
        self.assertEqual(self.answers(desk_of('watch 1 - a,b a,b a,c'), 'advice a', 'advice b', 'advice c'), ['over', 'a,c', 'stays'])

    def test_errors_of_the_watch(self):
        desk = desk_of('watch 1 r m,n m,n m,p m,q n,q q,r', 'lose n m,p')
        for row, event, reason in (('lose m -', ('lose', 'm', None), 'stuck'), ('lose p m,n', ('lose', 'p', ('m', 'n')), 'answer'), ('back p -', ('back', 'p', None), 'present'),
                                   ('lose r -', ('lose', 'r', None), 'kept'), ('lose n -', ('lose', 'n', None), 'absent'),
                                   ('advice n', ('lose', 'n', None), 'absent'), ('advice r', ('lose', 'r', None), 'kept')):
            with self.assertRaises(InvalidEvent) as caught:
                desk.say(row)
            self.assertEqual((caught.exception.event, caught.exception.reason), (event, reason))
        for row, person in (('lose z -', 'z'), ('lose z x,y', 'z'), ('lose p m,y', 'y'), ('back z -', 'z'), ('advice z', 'z'),
                            ('advice undo', 'undo')):
            with self.assertRaises(UnknownPerson) as caught:
                desk.say(row)
            self.assertEqual(caught.exception.person, person)
        self.assertEqual(self.answers(desk, 'count', 'log'), ['1', 'lose n m,p'])

    def test_a_full_watch(self):
        desk = desk_of(FIRST, *['widen 1'] * 60)
        with self.assertRaises(InvalidEvent) as caught:
            desk.say('lose n m,q')
        self.assertEqual((caught.exception.event, caught.exception.reason), (('lose', 'n', ('m', 'q')), 'full'))
        self.assertEqual(self.answers(desk, 'count', 'undo', 'lose n m,q'), ['60', 'widen 1', 'm,q'])

    def test_people_who_are_called_like_words(self):
        desk = desk_of('watch 1 - undo,watch undo,watch')
        self.assertEqual(self.answers(desk, 'advice undo', 'crew', 'present', 'lose undo -'), ['over', 'undo,watch', 'undo,watch', 'over'])


class TestRows(DeskTest):
    def test_rows_that_are_no_form(self):
        for row in NO_ROWS + NO_LOGS:
            self.refuse(Desk(), row)
            self.refuse(desk_of(FIRST), row)
            self.refuse(desk_of(FIRST, 'lose q -', 'lose m -'), row)

    def test_nothing_but_a_watch_line_before_the_first_one(self):
        desk = Desk()
        for row in WORDS + ('lose n m,q', 'lose z -', 'back n -', 'widen 2', 'lose m n,m', 'crew'):
            self.refuse(desk, row)
        self.assertEqual(desk.say(FIRST), 'ok')
        self.assertEqual(desk.say('crew'), 'm,n')

    def test_a_refused_watch_line_changes_nothing(self):
        desk = desk_of(FIRST, 'lose n m,q')
        for row in NO_LOGS:
            self.refuse(desk, row)
        self.assertEqual(self.answers(desk, 'log', 'crew'), ['lose n m,q', 'm,q'])
        desk = Desk()
        self.refuse(desk, NO_LOGS[0])
        self.refuse(desk, 'crew')

    def test_a_row_that_is_no_form_comes_before_any_other_error(self):
        desk = desk_of(FIRST)
        self.refuse(desk, 'undo 1')
        self.refuse(desk, 'lose z')
        self.refuse(desk, 'advice Z')
        desk = desk_of(FIRST, *['widen 1'] * 60)
        self.refuse(desk, 'widen 01')


class TestCounts(DeskTest):
    def test_each_call_counts(self):
        desk = Desk()
        self.assertEqual(desk.counts(), (0, 0))
        rows = ('crew', '', NO_LOGS[0], FIRST, 'crew', 'lose n m,q', 'lose n m,q', 'lose z -', 'undo', 'undo', 'advice z', 'judge', FIRST,
                'nothing', 'log')
        for many, row in enumerate(rows, start=1):
            try:
                desk.say(row)
            except errors.CrewError:
                pass
            self.assertEqual(desk.counts(), (many, many))
        self.assertEqual([type(desk.counts())] + [type(part) for part in desk.counts()], [tuple, int, int])

    def test_desks_do_not_share_anything(self):
        one, other = desk_of(FIRST), Desk()
        self.refuse(other, 'crew')
        self.assertEqual((one.counts(), other.counts(), one.say('crew')), ((1, 1), (1, 1), 'm,n'))


class TestAgainstAWatch(DeskTest):
    def crew_text(self, crew):
        return 'over' if crew is None else ','.join(crew)

    def outcome(self, call):
        try:
            return call()
        except errors.CrewError as error:
            return type(error).__name__, vars(error)

    def test_random_rows(self):
        rnd = Random(171)
        for _ in range(40):
            crews = rnd.choice((PAIRS, random_crews(rnd, 'abcde', 6)))
            kept = tuple(person for person in people_in(crews) if rnd.random() < 0.1)
            watch = Watch(crews, rnd.choice(crews), kept=kept)
            desk = desk_of(log_lines(watch.log())[0])
            for _ in range(30):
                person = rnd.choice(people_in(crews))
                crew = rnd.choice(crews + (None,) * len(crews))
                row = rnd.choice((event_line(('lose', person, crew)), event_line(('back', person, crew)), 'widen 2', 'widen 1', 'undo'))
                call = (lambda: event_line(watch.undo())) if row == 'undo' else lambda: self.crew_text(watch.go(read_event(row)))
                self.assertEqual(self.outcome(lambda: desk.say(row)), self.outcome(call))
                self.compare(desk, watch, people_in(crews))

    def compare(self, desk, watch, people):
        judged = watch.judge()
        expected = [str(len(watch)), str(watch), ','.join(watch.present) or '-', self.crew_text(watch.crew), str(watch.width),
                    'yes' if watch.is_calm else 'no', 'yes' if watch.is_careless else 'no', 'none' if judged is None else str(judged)]
        found = self.answers(desk, 'count', 'log', 'present', 'crew', 'width', 'calm', 'careless', 'judge')
        self.assertEqual(found, expected)
        self.assertEqual({type(text) for text in found}, {str})
        for person in people:
            advice = self.outcome(lambda: watch.advice(person))
            if advice is None or isinstance(advice, tuple) and isinstance(advice[-1], str):
                advice = 'none' if advice is None else ','.join(advice)
            self.assertEqual(self.outcome(lambda: desk.say('advice ' + person)), advice)


if __name__ == '__main__':
    unittest.main()
