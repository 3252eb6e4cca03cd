"""The promises over the whole program: how functions are called, what they return, and what they leave as it was."""

import contextlib
import copy
import importlib
import inspect
import io
import unittest
from random import Random

from crewbook.calmpapers import calm_paper
from crewbook.carelesspapers import careless_paper
from crewbook.desk import Desk
from crewbook.goodpapers import good_paper
from crewbook.lists import Crews, Groups, Joined, Posts, Webs
from crewbook.refusals import refusal_paper
from crewbook.steadypapers import steady_paper
from crewbook.watching import Watch
from tests.samples import BOOK, FIVE, PAIRS, TWO
from tests.test_interface import CLASSES, FUNCTIONS

MN, MP, MQ, NQ, QR = PAIRS
ABC = ('a', 'b', 'c')
LOG = (('watch', PAIRS, MN, 1, ('r',)), ('lose', 'n', MQ), ('widen', 0))
SITUATION = {'crews': PAIRS, 'present': FIVE, 'crew': MN, 'width': 1}
# For each function named arguments, the positional ones behind them, and the kind of the result.
CALLS = {
    'is_number': ({'thing': 1}, (), bool), 'is_name': ({'thing': 'a'}, (), bool), 'is_set': ({'thing': ABC}, (), bool),
    'is_crews': ({'thing': PAIRS}, (), bool), 'lets_crews': ({'thing': PAIRS}, (), int), 'set_text': ({'people': ABC}, (), str),
    'crews_text': ({'crews': PAIRS}, (), str), 'event_line': ({'event': LOG[1]}, (), str), 'log_lines': ({'log': LOG}, (), list),
    'restricted': ({'book': BOOK, 'present': ('a', 'b')}, (), tuple), 'crews_used': ({'book': BOOK}, (), tuple),
    'set_read': ({'text': 'a,b'}, (), tuple), 'crews_read': ({'text': 'crew a'}, (), tuple),
    'is_situation': ({'crews': PAIRS, 'thing': (FIVE, MN)}, (), bool), 'crews_left': ({'crews': PAIRS, 'present': FIVE}, (), tuple),
    'newcomers': ({'crew': MN, 'other': MP}, (), tuple), 'loss_word': ({**SITUATION, 'lost': 'n'}, (), str),
    'answers': ({**SITUATION, 'lost': 'n'}, (), tuple), 'after': ({'crews': PAIRS, 'present': FIVE}, ('n', 'm'), tuple),
    'lets_book': ({'crews': TWO, 'present': ABC, 'width': 1, 'thing': BOOK}, (), int),
    'books': ({'crews': TWO, 'present': ABC, 'width': 1}, (), None), 'is_booked': (SITUATION, (), bool),
    'book_paper': (SITUATION, (), tuple), 'booked_crews': ({'crews': PAIRS, 'present': FIVE, 'width': 1}, (), tuple),
    'is_good': ({'crews': PAIRS}, (), bool), 'first_crew': ({'crews': PAIRS, 'present': FIVE}, ('q', 'n'), tuple),
    'allowed_crews': ({'crews': TWO, 'pages': BOOK, 'present': ABC, 'width': 1}, (), tuple),
    'page_of': ({'book': BOOK, 'people': ABC}, (), tuple), 'followed': ({'book': BOOK, 'present': ABC}, ('b', 'c'), tuple),
    'lets_refusal': ({**SITUATION, 'crew': MP, 'thing': refusal_paper(PAIRS, FIVE, MP, 1)}, (), int),
    'refusal_paper': ({**SITUATION, 'crew': MP}, (), tuple), 'lets_good': ({'crews': PAIRS, 'thing': good_paper(PAIRS)}, (), bool),
    'good_paper': ({'crews': PAIRS}, (), tuple), 'lets_offers': ({'crews': PAIRS, 'thing': (('keep', 'm'),)}, (), int),
    'crews_with': ({'crews': PAIRS}, (), tuple), 'without': ({'crews': PAIRS}, ('m',), tuple), 'renamed': ({'crews': PAIRS}, (), tuple),
    'is_steady': (SITUATION, (), bool), 'lets_steady': ({**SITUATION, 'thing': steady_paper(PAIRS, FIVE, MN, 1)}, (), bool),
    'steady_paper': (SITUATION, (), tuple), 'lets_calm': ({**SITUATION, 'thing': calm_paper(PAIRS, FIVE, MN, 1)}, (), bool),
    'calm_paper': (SITUATION, (), tuple), 'is_calm': (SITUATION, (), bool),
    'calm_crews': ({'crews': PAIRS, 'present': FIVE, 'width': 1}, (), tuple), 'safe_answers': ({**SITUATION, 'lost': 'n'}, (), tuple),
    'is_careless': (SITUATION, (), bool), 'regrets': (SITUATION, (), None), 'careless_paper': (SITUATION, (), tuple),
    'lets_careless': ({**SITUATION, 'thing': careless_paper(PAIRS, FIVE, MN, 1)}, (), bool),
    'least_offers': ({**SITUATION, 'crew': MP, 'offers': (('crew', ('p', 'q')), ('keep', 'm'))}, (), tuple),
    'widths': ({'crews': PAIRS, 'present': FIVE, 'crew': MN}, (), tuple), 'cheapest': ({'crews': PAIRS, 'present': FIVE}, (), tuple),
    'price_of': ({'crews': PAIRS, 'present': FIVE}, ('m', 'n'), int),
    'threshold': ({'crews': PAIRS, 'present': FIVE, 'person': 'm'}, (), int), 'is_log': ({'thing': LOG}, (), bool),
    'replayed': ({'log': LOG}, (), Watch), 'read_event': ({'text': 'lose n m,q'}, (), tuple),
    'read_log': ({'lines': ['watch 1 - m,n m,n', 'widen 2']}, (), tuple),
}


def functions():
    """Return all functions of the interface by their names."""
    found = {}
    for module, signatures in FUNCTIONS.items():
        for signature in signatures:
            name = signature.split('(')[0]
            found[name] = getattr(importlib.import_module('crewbook.' + module), name)
    return found


def result_of(function, *arguments, **named):
    result = function(*arguments, **named)
    return list(result) if inspect.isgenerator(result) else result


def parts(thing):
    """Return the thing and all that is in its tuples and lists."""
    inner = [part for one in thing for part in parts(one)] if isinstance(thing, (tuple, list)) else []
    return [thing] + inner


class TestFunctions(unittest.TestCase):
    def test_all_functions_are_called_here(self):
        self.assertEqual(set(CALLS), set(functions()))

    def test_by_position_and_by_name(self):
        for name, function in functions().items():
            named, rest, kind = CALLS[name]
            names = [one for one, parameter in inspect.signature(function).parameters.items()
                     if parameter.kind == parameter.POSITIONAL_OR_KEYWORD]
            self.assertEqual(sorted(names), sorted(named), name)
            result = result_of(function, *[named[one] for one in names], *rest)
            if not rest:
                self.assertEqual(result_of(function, **named), result, name)
            if kind is None:
                self.assertTrue(inspect.isgenerator(function(**named)), name)
            else:
                self.assertIs(type(result), kind, name)

    def test_results_consist_of_plain_values(self):
        for name, function in functions().items():
            named, rest, kind = CALLS[name]
            result = result_of(function, *named.values(), *rest) if rest else result_of(function, **named)
            if kind is not Watch:
                self.assertLessEqual({type(part) for part in parts(result)}, {tuple, list, str, int, bool, type(None)}, name)

    def test_no_argument_changes_and_nothing_is_printed(self):
        for name, function in functions().items():
            named, rest, _ = CALLS[name]
            before = copy.deepcopy((named, rest))
            printed = io.StringIO()
            with contextlib.redirect_stdout(printed), contextlib.redirect_stderr(printed):
                result_of(function, *named.values(), *rest) if rest else result_of(function, **named)
            self.assertEqual(((named, rest), printed.getvalue()), (before, ''), name)

    def test_lists_are_new(self):
        for name, function in functions().items():
            named, rest, kind = CALLS[name]
            if kind is list:
                first = function(**named)
                first.clear()
                self.assertNotEqual(function(**named), first, name)

    def test_no_result_depends_on_earlier_calls(self):
        rnd = Random(181)
        found = {}
        for _ in range(3):
            names = sorted(CALLS)
            rnd.shuffle(names)
            for name in names:
                named, rest, _ = CALLS[name]
                function = functions()[name]
                result = result_of(function, *named.values(), *rest) if rest else result_of(function, **named)
                self.assertEqual(found.setdefault(name, result), result, name)

    def test_results_may_be_passed_in_again(self):
        for name in ('calm_paper', 'careless_paper', 'steady_paper', 'book_paper'):
            word = name.split('_')[0]
            check = functions()['lets_' + word]
            paper = functions()[name](**SITUATION)
            arguments = {one: SITUATION[one] for one in SITUATION if one in inspect.signature(check).parameters}
            self.assertIsNotNone(check(**arguments, thing=paper))


class TestObjects(unittest.TestCase):
    def test_attributes_stand_on_new_objects(self):
        for thing in (Crews(*PAIRS), Groups((1, ('a', 'b'))), Posts(('a',)), Webs(('a', 'x', 'y')), Joined(Crews(('a',))), Watch(PAIRS, MN)):
            for name in CLASSES['watching' if isinstance(thing, Watch) else 'lists'][type(thing).__name__]:
                self.assertTrue(hasattr(thing, name), (thing, name))

    def test_a_watch_and_a_desk_change_by_their_own_methods_only(self):
        one, other = Watch(PAIRS, MN), Watch(PAIRS, MN)
        one.lose('n', MQ)
        self.assertEqual((len(other), other.present, other.counts()), (0, FIVE, (0, 0)))
        log = one.log()
        self.assertEqual([type(part) for part in parts(log)].count(list), 0)
        desk = Desk()
        desk.say('watch 1 - m,n m,n')
        self.assertEqual(Desk().counts(), (0, 0))


if __name__ == '__main__':
    unittest.main()
