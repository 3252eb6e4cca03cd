import unittest

from crewbook.errors import UnknownPerson
from crewbook.losses import after, answers, crews_left, is_situation, loss_word, newcomers
from tests.samples import (ALL, BIG, FIVE, ODD, PAIRS, SIXTY, WIDE, all_crews, left_in, people_in, subsets)


class LossTest(unittest.TestCase):
    def unknown(self, person, function, *arguments, **named):
        with self.assertRaises(UnknownPerson) as caught:
            function(*arguments, **named)
        self.assertEqual(caught.exception.person, person)


class TestIsSituation(LossTest):
    def test_situations(self):
        for thing in ((FIVE, ('m', 'n')), (('m', 'n'), ('m', 'n')), (('m', 'q', 'r'), ('q', 'r'))):
            self.assertIs(is_situation(PAIRS, thing), True)
        self.assertIs(is_situation(crews=WIDE, thing=(ALL, BIG)), True)

    def test_other_values(self):
        for thing in ODD + ((), FIVE, PAIRS, ('m', 'n'), (('m', 'n'),), (FIVE, ('m', 'n'), ()), [FIVE, ('m', 'n')],
                            (list(FIVE), ('m', 'n')), (FIVE, ['m', 'n']), (FIVE, None), (None, ('m', 'n')),
                            (FIVE, ('m', 'r')), (FIVE, ()), ((), ()), ((), ('m', 'n')), (FIVE, ('n', 'm')),
                            (FIVE, ('m', 'n', 'p')), (('m', 'p'), ('m', 'n')), (FIVE[::-1], ('m', 'n')),
                            (('m', 'm', 'n'), ('m', 'n')), (FIVE + ('z',), ('m', 'n')), (('m', 'n', 'no'), ('m', 'n')),
                            (FIVE, 'mn'), ('mn', ('m', 'n')), (('m', 'n'), FIVE), (True, False), ((1,), (1,)),
                            (FIVE, (('m', 'n'),)), ('m', 'n', 'p', 'q', 'r')):
            self.assertIs(is_situation(PAIRS, thing), False, thing)

    def test_against_the_definition(self):
        for crews in all_crews(('a', 'b', 'c'), 3):
            for present in subsets(('a', 'b', 'c')):
                for crew in subsets(('a', 'b', 'c')):
                    expected = set(present) <= set(people_in(crews)) and crew in left_in(crews, present)
                    self.assertIs(is_situation(crews, (present, crew)), expected)


class TestCrewsLeft(LossTest):
    def test_example_of_the_document(self):
        self.assertEqual(crews_left(PAIRS, ('m', 'p', 'q')), (('m', 'p'), ('m', 'q')))

    def test_crews_left(self):
        self.assertEqual(crews_left(PAIRS, FIVE), PAIRS)
        self.assertEqual(crews_left(PAIRS, ()), ())
        self.assertEqual(crews_left(crews=PAIRS, present=('n', 'p', 'r')), ())
        for people in subsets(FIVE):
            self.assertEqual(crews_left(PAIRS, people), left_in(PAIRS, people))

    def test_unknown_people(self):
        self.unknown('a', crews_left, PAIRS, ('a', 'b', 'm'))
        self.unknown('z', crews_left, PAIRS, FIVE + ('z',))


class TestNewcomers(LossTest):
    def test_newcomers(self):
        self.assertEqual(newcomers(('m', 'n'), ('m', 'p')), ('p',))
        self.assertEqual(newcomers(('m', 'n'), ('n', 'p', 'q')), ('p', 'q'))
        self.assertEqual(newcomers((), ('a', 'b')), ('a', 'b'))
        self.assertEqual(newcomers(('a', 'b'), ()), ())
        self.assertEqual(newcomers(crew=('a', 'b'), other=('a', 'b')), ())
        self.assertIs(type(newcomers(('a',), ('b',))), tuple)


class TestAnswers(LossTest):
    def test_example_of_the_document(self):
        self.assertEqual(
            [answers(PAIRS, FIVE, ('m', 'n'), 'n', 1), loss_word(PAIRS, ('m', 'p', 'q', 'r'), ('m', 'p'), 'm', 1)],
            [(('m', 'p'), ('m', 'q')), 'stuck'])

    def test_words(self):
        self.assertEqual(loss_word(PAIRS, FIVE, ('m', 'n'), 'p', 0), 'stays')
        self.assertEqual(loss_word(PAIRS, FIVE, ('m', 'n'), 'n', 0), 'stuck')
        self.assertEqual(loss_word(PAIRS, FIVE, ('m', 'n'), 'n', 1), 'open')
        self.assertEqual(loss_word(PAIRS, ('m', 'n'), ('m', 'n'), 'n', 8), 'over')
        self.assertEqual(loss_word(PAIRS, ('m', 'n', 'p'), ('m', 'n'), 'm', 8), 'over')
        self.assertEqual(loss_word(PAIRS, ('m', 'n', 'p'), ('m', 'n'), 'p', 8), 'stays')
        self.assertEqual(loss_word(PAIRS, ('m', 'p', 'q', 'r'), ('m', 'p'), 'm', 2), 'open')
        self.assertEqual(loss_word(crews=PAIRS, present=FIVE, crew=('m', 'n'), lost='m', width=SIXTY), 'open')

    def test_width_zero_allows_parts_only(self):
        crews = (('a', 'b'), ('a', 'c'), ('b', 'c', 'd'))
        self.assertEqual(answers(crews, ('a', 'b', 'c', 'd'), ('a', 'b'), 'b', 0), ())
        self.assertEqual(loss_word(crews, ('a', 'b', 'c', 'd'), ('a', 'b'), 'b', 0), 'stuck')
        self.assertEqual(answers(crews, ('a', 'b', 'c', 'd'), ('b', 'c', 'd'), 'd', 0), ())
        self.assertEqual(loss_word(crews, ('a', 'b'), ('a', 'b'), 'b', 0), 'over')

    def test_no_answers(self):
        for arguments in ((FIVE, ('m', 'n'), 'p'), (('m', 'n'), ('m', 'n'), 'm'), (('m', 'p', 'q', 'r'), ('m', 'p'), 'm')):
            self.assertEqual(answers(PAIRS, *arguments, 1), ())

    def test_who_left_an_earlier_crew_counts_again(self):
        self.assertEqual(answers(WIDE, ALL, BIG, 'x', 1), (('a', 'p', 'q', 'y'),))
        self.assertEqual(answers(WIDE, ALL, BIG, 'y', 1), (('a', 'r', 's', 'x'),))

    def test_against_the_definition(self):
        for crews in all_crews(('a', 'b', 'c'), 3) + [PAIRS, WIDE]:
            people = people_in(crews)
            for present in subsets(people)[::7 if crews == WIDE else 1]:
                for crew in left_in(crews, present):
                    for lost in present:
                        for width in (0, 1, 2, 3):
                            self.compare(crews, present, crew, lost, width)

    def compare(self, crews, present, crew, lost, width):
        rest = set(present) - {lost}
        left = [other for other in crews if set(other) <= rest]
        found = tuple(other for other in left if len(set(other) - set(crew)) <= width) if lost in crew else ()
        self.assertEqual(answers(crews, present, crew, lost, width), found)
        word = 'stays' if lost not in crew else 'over' if not left else 'open' if found else 'stuck'
        self.assertEqual(loss_word(crews, present, crew, lost, width), word)

    def test_unknown_people_parameter_by_parameter(self):
        for function in (answers, loss_word):
            self.unknown('b', function, PAIRS, ('b', 'c', 'm'), ('a', 'm'), 'aa', 1)
            self.unknown('z', function, PAIRS, FIVE + ('z',), ('a', 'm'), 'aa', 1)
            self.unknown('a', function, PAIRS, FIVE, ('a', 'b'), 'aa', 1)
            self.unknown('aa', function, PAIRS, FIVE, ('m', 'n'), 'aa', 1)


class TestAfter(LossTest):
    def test_example_of_the_document(self):
        self.assertEqual(after(PAIRS, FIVE, 'n', 'q'), (('m', 'p', 'r'), (('m', 'p'),)))

    def test_any_order_twice_or_absent(self):
        for lost in (('q', 'n'), ('n', 'q', 'n'), ('q', 'q', 'n', 'n')):
            self.assertEqual(after(PAIRS, FIVE, *lost), (('m', 'p', 'r'), (('m', 'p'),)))
        self.assertEqual(after(PAIRS, ('m', 'p', 'r'), 'n', 'q'), (('m', 'p', 'r'), (('m', 'p'),)))
        self.assertEqual(after(PAIRS, (), 'm'), ((), ()))

    def test_nobody_is_lost(self):
        self.assertEqual(after(PAIRS, FIVE), (FIVE, PAIRS))
        self.assertEqual(after(crews=PAIRS, present=()), ((), ()))

    def test_all_are_lost(self):
        self.assertEqual(after(PAIRS, FIVE, *FIVE), ((), ()))
        self.assertEqual(after(PAIRS, FIVE, 'm', 'q'), (('n', 'p', 'r'), ()))

    def test_kinds(self):
        result = after(PAIRS, FIVE, 'n')
        self.assertEqual([type(result), type(result[0]), type(result[1])], [tuple] * 3)

    def test_unknown_people(self):
        self.unknown('a', after, PAIRS, ('a', 'm'), 'b')
        self.unknown('b', after, PAIRS, FIVE, 'm', 'b', 'a')


if __name__ == '__main__':
    unittest.main()
