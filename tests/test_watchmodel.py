"""Random events that are played against the reference model of a watch, with every report after each of them."""

import unittest
from random import Random

from crewbook import errors
from crewbook.calm import is_calm, safe_answers
from crewbook.careless import is_careless
from crewbook.eventreadings import read_log
from crewbook.eventtexts import log_lines
from crewbook.losses import loss_word
from crewbook.replaying import is_log, replayed
from crewbook.watching import Watch
from tests.samples import ODD, PAIRS, TWO, left_in, people_in, random_crews, without_one
from tests.watchmodel import Model, Refused

FIELDS = {'InvalidEvent': ('event', 'reason'), 'InvalidWidth': ('width',), 'NothingToUndo': ('steps',), 'UnknownPerson': ('person',)}


def outcome(call):
    """Return what a call of a watch returns, or the name and the fields of its error."""
    try:
        return 'returned', call()
    except errors.CrewError as error:
        name = type(error).__name__
        return (name,) + tuple(getattr(error, field) for field in FIELDS[name])


def expected(call):
    try:
        return 'returned', call()
    except Refused as refused:
        return (refused.name,) + refused.fields


class TestAgainstTheModel(unittest.TestCase):
    def setUp(self):
        self.seen = set()

    def same(self, call, right):
        """Check that a call of the watch does what the call of the model does, and note what it was."""
        found, wanted = outcome(call), expected(right)
        self.assertEqual(found, wanted)
        self.seen.add(wanted[-1] if wanted[0] == 'InvalidEvent' else wanted[0])

    def likely_event(self, rnd, model):
        """Return an event that is mostly possible."""
        present, crew, width = model.now()
        people = people_in(model.crews)
        person = rnd.choice(people)
        word = 'lose' if person in present else 'back'
        left = left_in(model.crews, without_one(present, person) if word == 'lose' else tuple(sorted(present + (person,))))
        taker = None
        if word == 'lose' and crew is not None and person in crew or word == 'back' and crew is None:
            answers = [other for other in left if crew is None or len(set(other) - set(crew)) <= width]
            taker = rnd.choice(answers) if answers else None
        if rnd.random() < 0.15:
            return 'widen', rnd.choice((0, 1, 1, 2, 3))
        return word, person, taker

    def event(self, rnd, model):
        """Return any value as an event."""
        kind = rnd.random()
        if kind < 0.6:
            return self.likely_event(rnd, model)
        if kind < 0.65:
            return rnd.choice(ODD)
        names = people_in(model.crews) + ('zz',)
        crew = rnd.choice(model.crews + (None, None, ('a', 'z'), (), names[:2], names[1::-1]))
        if kind < 0.95:
            return rnd.choice(('lose', 'back')), rnd.choice(names), crew
        return rnd.choice((('widen', rnd.choice((0, 5, True, -1, None))), ('lose', crew, None), ('lost', 'a', None), ('lose', 'a')))

    def step(self, rnd, watch, model):
        """Play one operation, and compare what comes of it."""
        event = self.event(rnd, model)
        kind = rnd.random()
        if kind < 0.55:
            self.same(lambda: watch.go(event), lambda: model.go(event))
        elif kind < 0.7:
            self.play_method(rnd, watch, model, event)
        elif kind < 0.8:
            self.same(watch.undo, model.undo)
        elif kind < 0.9:
            events = [self.event(rnd, model) for _ in range(rnd.randint(0, 4))]
            keep = rnd.random() < 0.5
            self.same(lambda: watch.do_all(*events, keep=keep), lambda: model.do_all(*events, keep=keep))
        else:
            value = rnd.choice((0, 1, 2, 3, True, None, -1, '1'))
            self.same(lambda: watch.set_width(value), lambda: model.set_width(value))

    def play_method(self, rnd, watch, model, event):
        """Play an event by the method that has its word."""
        methods = {'lose': watch.lose, 'back': watch.back, 'widen': watch.widen}
        if isinstance(event, tuple) and event and isinstance(event[0], str) and event[0] in methods and (
                len(event) == (2 if event[0] == 'widen' else 3)):
            self.same(lambda: methods[event[0]](*event[1:]), lambda: model.go(event))

    def compare(self, rnd, watch, model):
        """Compare every report."""
        situation = model.now()
        self.assertEqual((watch.present, watch.crew, watch.width), situation)
        self.assertEqual((watch.is_calm, watch.is_careless), (model.holds(situation, 0), model.holds(situation, 1)))
        self.assertIs(type(watch.is_calm), bool)
        self.assertEqual((watch.log(), len(watch), str(watch)), (model.log(), len(model.events), model.text()))
        self.assertEqual(watch.counts(), (model.operations, model.operations))
        self.assertEqual(watch.judge(), model.judge())
        for person in people_in(model.crews) + ('zz',):
            found, right = outcome(lambda: watch.advice(person)), expected(lambda: model.advices(person))
            if right[0] == 'returned':
                self.assertIn(found[1], right[1])
            else:
                self.assertEqual(found, right)
        events = [self.event(rnd, model) for _ in range(rnd.randint(0, 3))]
        self.same(lambda: watch.tried(*events), lambda: model.tried(*events))
        self.assertEqual((watch.log(), watch.counts()), (model.log(), (model.operations, model.operations)))
        self.replay(watch)

    def replay(self, watch):
        log = watch.log()
        self.assertIs(is_log(log), True)
        again = replayed(read_log(log_lines(log)))
        self.assertIs(again == watch, True)
        self.assertEqual((again.present, again.crew, again.width, again.log(), again.judge()),
                         (watch.present, watch.crew, watch.width, log, watch.judge()))

    def play(self, seed, crews, steps):
        rnd = Random(seed)
        crew, width = rnd.choice(crews), rnd.choice((0, 1, 1, 2))
        kept = tuple(person for person in people_in(crews) if rnd.random() < 0.1)
        watch, model = Watch(crews, crew, width=width, kept=kept), Model(crews, crew, width, kept)
        self.compare(rnd, watch, model)
        for _ in range(steps):
            self.step(rnd, watch, model)
            self.compare(rnd, watch, model)
        return watch

    def test_random_events(self):
        rnd = Random(161)
        for seed in range(60):
            self.play(seed, rnd.choice((PAIRS, TWO, random_crews(rnd, 'abcde', 6))), 25)
        self.assertLessEqual({'returned', 'shape', 'absent', 'kept', 'stuck', 'answer', 'present', 'UnknownPerson', 'InvalidWidth',
                              'NothingToUndo'}, self.seen)

    def test_many_events(self):
        lengths = [len(self.play(seed, TWO, 300)) for seed in (2, 3)]
        self.assertEqual(max(lengths), 60)
        self.assertIn('full', self.seen)


class TestAgainstTheFunctions(unittest.TestCase):
    def test_reports_are_those_of_the_functions(self):
        rnd = Random(162)
        for _ in range(100):
            crews = random_crews(rnd, 'abcdef', 8)
            kept = tuple(person for person in people_in(crews) if rnd.random() < 0.1)
            watch = Watch(crews, rnd.choice(crews), width=rnd.choice((1, 2)), kept=kept)
            while watch.crew is not None and set(watch.present) > set(kept):
                arguments = (crews, watch.present, watch.crew)
                self.assertIs(watch.is_calm, is_calm(*arguments, watch.width, kept=kept))
                self.assertIs(watch.is_careless, is_careless(*arguments, watch.width, kept=kept))
                person = rnd.choice([person for person in watch.present if person not in kept])
                word = loss_word(*arguments, person, watch.width)
                advice = watch.advice(person)
                safe = safe_answers(*arguments, person, watch.width, kept=kept)
                self.assertIn(advice, {'over': ['over'], 'stays': ['stays']}.get(word, safe or [None]))
                if advice is None:
                    break
                watch.lose(person, advice if word == 'open' else None)

    def test_a_calm_watch_with_advice_stays_calm(self):
        rnd = Random(163)
        number = 0
        for _ in range(300):
            crews = random_crews(rnd, 'abcdefg', 10)
            kept = tuple(person for person in people_in(crews) if rnd.random() < 0.1)
            watch = Watch(crews, rnd.choice(crews), width=rnd.choice((1, 2)), kept=kept)
            if watch.is_calm:
                self.lose_all(rnd, watch, kept)
                number += 1
        self.assertGreater(number, 50)

    def lose_all(self, rnd, watch, kept):
        people = [person for person in watch.present if person not in kept]
        rnd.shuffle(people)
        for person in people:
            advice = watch.advice(person)
            self.assertIsNotNone(advice)
            watch.lose(person, None if isinstance(advice, str) else advice)
            self.assertIs(watch.is_calm, True)
        self.assertIsNone(watch.judge())
        self.assertIs(replayed(watch.log()) == watch, True)


if __name__ == '__main__':
    unittest.main()
