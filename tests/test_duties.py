"""The promises over losses, calm and careless situations, books, good crews and steady states together."""

import inspect
import unittest
from itertools import islice, permutations
from random import Random

from crewbook.bookchecker import lets_book
from crewbook.books import book_paper, booked_crews, is_booked
from crewbook.calm import calm_crews, is_calm, safe_answers
from crewbook.calmchecker import lets_calm
from crewbook.calmpapers import calm_paper
from crewbook.careless import is_careless
from crewbook.carelesschecker import lets_careless
from crewbook.carelesspapers import careless_paper
from crewbook.goodcrews import first_crew, is_good
from crewbook.goodpapers import good_paper
from crewbook.losses import after, answers, crews_left, loss_word
from crewbook.mending import least_offers
from crewbook.pages import page_of
from crewbook.refusals import refusal_paper
from crewbook.regrets import regrets
from crewbook.steadiness import is_steady
from crewbook.steadypapers import steady_paper
from tests.samples import (ALL, BIG, FIVE, PAIRS, WIDE, CrewTest, all_crews, left_in, people_in, random_crews,
                           relevant_directly, situations_in, states_in, without_one)

MORE = tuple(sorted(WIDE + (('a', 'p', 'r', 'x', 'y'),)))


def asked(crews, present, crew, width, kept=()):
    """Return whether a situation is calm, careless and booked."""
    return tuple(holds(crews, present, crew, width, kept=kept) for holds in (is_calm, is_careless, is_booked))


def some_situations(seed, number, names='abcde'):
    """Return crews, a situation of them and some kept people, so many times."""
    rnd = Random(seed)
    found = []
    while len(found) < number:
        crews = rnd.choice((PAIRS, random_crews(rnd, names, 8)))
        kept = tuple(person for person in people_in(crews) if rnd.random() < 0.15)
        found += [(crews, present, crew, kept) for present, crew in rnd.sample(situations_in(crews), 1)]
    return found


class TestThreeQuestions(CrewTest):
    def test_careless_and_booked_situations_are_calm(self):
        kinds = set()
        for crews, present, crew, kept in some_situations(111, 500) + [(MORE, ALL, BIG, ()), (WIDE, ALL, BIG, ())]:
            for width in (0, 1, 2):
                kinds.add(asked(crews, present, crew, width, kept))
        self.assertEqual(kinds, {(True, True, True), (True, False, True), (True, True, False), (True, False, False),
                                 (False, False, False)})

    def test_all_three_are_different(self):
        self.assertEqual(asked(WIDE, ALL, BIG, 1), (True, True, False))
        self.assertEqual(asked(PAIRS, FIVE, ('m', 'n'), 1), (True, False, True))
        self.assertEqual(asked(MORE, ALL, BIG, 1), (True, False, False))

    def test_a_greater_width_keeps_calm_and_booked(self):
        for crews, present, crew, kept in some_situations(112, 150) + [(WIDE, ALL, BIG, ())]:
            rows = [asked(crews, present, crew, width, kept) for width in range(6)]
            for k in (0, 2):
                self.assertEqual([row[k] for row in rows], sorted(row[k] for row in rows))
        self.assertEqual([is_careless(WIDE, ALL, BIG, width) for width in range(9)], [False, True, False] + [True] * 6)

    def test_more_kept_people_keep_all_three(self):
        rnd = Random(113)
        for crews, present, crew, kept in some_situations(114, 200):
            more = tuple(sorted({*kept, *rnd.sample(people_in(crews), rnd.randint(0, len(people_in(crews))))}))
            for width in (0, 1, 2):
                pairs = zip(asked(crews, present, crew, width, kept), asked(crews, present, crew, width, more))
                self.assertTrue(all(fewer <= greater for fewer, greater in pairs))

    def test_kept_people_who_are_absent_have_no_effect(self):
        for crews, present, crew, kept in some_situations(115, 150):
            absent = tuple(person for person in people_in(crews) if person not in present)
            self.assertEqual(asked(crews, present, crew, 1, absent), asked(crews, present, crew, 1))
            self.assertEqual(list(islice(regrets(crews, present, crew, 1, kept=absent), 20)),
                             list(islice(regrets(crews, present, crew, 1), 20)))
            for paper in (calm_paper, careless_paper):
                self.assertEqual(paper(crews, present, crew, 1, kept=absent), paper(crews, present, crew, 1))

    def test_after_a_loss(self):
        steps = set()
        for crews, present, crew, kept in some_situations(116, 200):
            calm, careless, booked = asked(crews, present, crew, 1, kept)
            book = book_paper(crews, present, crew, 1, kept=kept)
            for lost in present:
                word = loss_word(crews, present, crew, lost, 1)
                if lost in kept or word == 'over':
                    continue
                rest = without_one(present, lost)
                self.assertFalse(careless and word == 'stuck')
                nexts = (crew,) if word == 'stays' else answers(crews, present, crew, lost, 1)
                if careless:
                    self.assertTrue(all(is_careless(crews, rest, other, 1, kept=kept) for other in nexts))
                if calm:
                    self.assertTrue(any(is_calm(crews, rest, other, 1, kept=kept) for other in nexts))
                if booked:
                    self.assertIn(page_of(book, rest), nexts)
                    self.assertIs(is_booked(crews, rest, page_of(book, rest), 1, kept=kept), True)
                steps.add((calm, careless, booked, word))
        self.assertGreater(len(steps), 6)

    def test_booked_crews_are_calm_crews(self):
        for crews, present, crew, kept in some_situations(117, 150):
            self.assertLessEqual(set(booked_crews(crews, present, 1, kept=kept)),
                                 set(calm_crews(crews, present, 1, kept=kept)))

    def test_people_in_no_crew_that_is_left_do_not_matter(self):
        for crews, present, crew, kept in some_situations(118, 100):
            people, left = after(crews, present, *[person for person in present if person not in crew])
            self.assertEqual((people, left), (crew, (crew,)))
            self.assertEqual(asked(crews, people, crew, 0, ()), (True, True, True))


class TestPapers(CrewTest):
    def test_papers_of_one_form_only(self):
        for crews, present, crew, kept in some_situations(119, 150):
            for width in (0, 1, 2):
                calm, careless, booked = asked(crews, present, crew, width, kept)
                arguments = (crews, present, crew, width)
                self.assertIs(lets_calm(*arguments, calm_paper(*arguments, kept=kept), kept=kept), calm)
                self.assertIs(lets_careless(*arguments, careless_paper(*arguments, kept=kept), kept=kept), careless)
                book, tree = book_paper(*arguments, kept=kept), refusal_paper(*arguments, kept=kept)
                self.assertEqual((book is not None, tree is None), (booked, booked))
                if book is not None:
                    self.assertEqual(lets_book(crews, present, width, book, kept=kept, first=crew), len(book))

    def test_rows_of_a_careless_paper_are_rows_of_a_calm_one(self):
        for crews, present, crew, kept in some_situations(120, 150):
            if is_careless(crews, present, crew, 1, kept=kept):
                situations = careless_paper(crews, present, crew, 1, kept=kept)[1]
                for people, other in situations:
                    self.assertIs(is_calm(crews, people, other, 1, kept=kept), True)
                self.assertLessEqual({row[:2] for row in calm_paper(crews, present, crew, 1, kept=kept)[1]}, set(situations))


class TestGoodCrews(CrewTest):
    def test_all_situations_are_careless_if_and_only_if_the_crews_are_good(self):
        number = 0
        for crews in all_crews('abcd', 6):
            careless = all(is_careless(crews, present, crew, 1) for present, crew in situations_in(crews))
            self.assertIs(is_good(crews), careless)
            self.assertEqual(good_paper(crews)[0], 'good' if careless else 'bad')
            number += careless
            if careless:
                self.assertEqual(len({len(crew) for crew in crews}), 1)
        self.assertGreater(number, 10)

    def test_good_crews_for_width_one(self):
        for crews in all_crews('abcd', 6):
            if is_good(crews):
                for present, crew in situations_in(crews):
                    self.assertEqual(asked(crews, present, crew, 1), (True, True, True))
                    self.assertEqual(list(regrets(crews, present, crew, 1)), [])
                    self.assertNotIn('stuck', [loss_word(crews, present, crew, lost, 1) for lost in present])
                    for lost in present:
                        self.assertEqual(safe_answers(crews, present, crew, lost, 1), answers(crews, present, crew, lost, 1))
                for order in permutations(people_in(crews)):
                    book = tuple((people, first_crew(crews, people, *order))
                                 for people in relevant_directly(crews, people_in(crews), ()))
                    self.assertEqual(lets_book(crews, people_in(crews), 1, book), len(book))

    def test_a_bad_paper_shows_a_situation_that_is_not_careless(self):
        for crews in all_crews('abcd', 6):
            paper = good_paper(crews)
            if paper[0] == 'bad':
                _, present, crew, lost = paper
                self.assertIs(lets_careless(crews, present, crew, 1, ('stuck', (), lost)), False)
                self.assertIs(is_careless(crews, present, crew, 1), False)


class TestSteady(CrewTest):
    def test_steady_situations_are_calm(self):
        rnd = Random(121)
        for crews in [PAIRS] + all_crews('abcd', 6)[::3] + [random_crews(rnd, 'abcde', 7) for _ in range(20)]:
            kept = tuple(rnd.sample(people_in(crews), rnd.choice((0, 1))))
            for width in (0, 1, 2):
                for present, crew in rnd.sample(situations_in(crews), min(10, len(situations_in(crews)))):
                    word, states = steady_paper(crews, present, crew, width, kept=kept)
                    self.assertIs(is_steady(crews, present, crew, width, kept=kept), word == 'steady')
                    for people, other in states if word == 'steady' else ():
                        if other:
                            self.assertIs(is_calm(crews, people, other, width, kept=kept), True)

    def test_states_of_good_crews_are_steady(self):
        for crews in all_crews('abcd', 6)[::2]:
            if is_good(crews):
                for present, crew in states_in(crews):
                    self.assertIs(is_steady(crews, present, crew, 1), True)


class TestUnknownPeople(CrewTest):
    def test_for_each_function_with_present_crew_lost_and_kept(self):
        functions = (is_calm, calm_crews, safe_answers, is_careless, regrets, calm_paper, lets_calm, careless_paper,
                     lets_careless, least_offers, crews_left, loss_word, answers)
        fine = {'crews': PAIRS, 'present': FIVE, 'crew': ('m', 'n'), 'lost': 'n', 'width': 1, 'thing': None, 'offers': (),
                'kept': ()}
        wrong = {'present': ('m', 'x', 'y'), 'crew': ('m', 'w', 'x'), 'lost': 'v', 'kept': ('m', 'u', 'z')}
        expected = {'present': 'x', 'crew': 'w', 'lost': 'v', 'kept': 'u'}
        for function in functions:
            names = [name for name in inspect.signature(function).parameters if name != 'goal']
            people = [name for name in names if name in wrong]
            for k, first in enumerate(people):
                arguments = {name: wrong[name] if name in people[k:] else fine[name] for name in names}
                self.unknown(expected[first], lambda **named: self.run_all(function(**named)), **arguments)

    def run_all(self, result):
        return list(result) if inspect.isgenerator(result) else result

    def test_an_absent_person_is_not_unknown(self):
        for function in (is_calm, is_careless, calm_paper, careless_paper):
            function(PAIRS, ('m', 'n'), ('m', 'n'), 1, kept=('p', 'r'))
        self.assertEqual(list(regrets(PAIRS, ('m', 'n'), ('m', 'n'), 1, kept=('p', 'r'))), [])
        self.assertEqual(calm_crews(PAIRS, ('m', 'n'), 1, kept=('p', 'r')), (('m', 'n'),))
        self.assertEqual(left_in(PAIRS, ('m', 'n')), (('m', 'n'),))


if __name__ == '__main__':
    unittest.main()
