"""The interface: modules, names, parameters, and where functions and classes are defined."""

import ast
import importlib
import inspect
import unittest
from pathlib import Path

PACKAGE = Path(__file__).resolve().parent.parent / 'crewbook'

FUNCTIONS = {
    'kinds': ('is_number(thing)', 'is_name(thing)', 'is_set(thing)', 'is_crews(thing)'),
    'crewchecker': ('lets_crews(thing)',),
    'crewtexts': ('set_text(people)', 'crews_text(crews)'),
    'eventtexts': ('event_line(event)', 'log_lines(log)'),
    'bookuse': ('restricted(book, present, *, kept=())', 'crews_used(book)'),
    'crewreadings': ('set_read(text)', 'crews_read(text)'),
    'losses': ('is_situation(crews, thing)', 'crews_left(crews, present)', 'newcomers(crew, other)',
               'loss_word(crews, present, crew, lost, width)', 'answers(crews, present, crew, lost, width)',
               'after(crews, present, *lost)'),
    'bookchecker': ('lets_book(crews, present, width, thing, *, kept=(), first=None)',),
    'books': ('books(crews, present, width, *, kept=(), first=None)',
              'is_booked(crews, present, crew, width, *, kept=())',
              'book_paper(crews, present, crew, width, *, kept=())',
              'booked_crews(crews, present, width, *, kept=())'),
    'goodcrews': ('is_good(crews)', 'first_crew(crews, present, *order)'),
    'pages': ('allowed_crews(crews, pages, present, width, *, kept=())', 'page_of(book, people)',
              'followed(book, present, *lost)'),
    'refusalchecker': ('lets_refusal(crews, present, crew, width, thing, *, kept=())',),
    'refusals': ('refusal_paper(crews, present, crew, width, *, kept=())',),
    'goodchecker': ('lets_good(crews, thing)',),
    'goodpapers': ('good_paper(crews)',),
    'offers': ('lets_offers(crews, thing)',),
    'searching': ('crews_with(crews, *, size=None, holds=(), lacks=())', 'without(crews, *people)',
                  'renamed(crews, **names)'),
    'steadiness': ('is_steady(crews, present, crew, width, *, kept=())',),
    'steadychecker': ('lets_steady(crews, present, crew, width, thing, *, kept=())',),
    'steadypapers': ('steady_paper(crews, present, crew, width, *, kept=())',),
    'calmchecker': ('lets_calm(crews, present, crew, width, thing, *, kept=())',),
    'calm': ('is_calm(crews, present, crew, width, *, kept=())', 'calm_crews(crews, present, width, *, kept=())',
             'safe_answers(crews, present, crew, lost, width, *, kept=())'),
    'careless': ('is_careless(crews, present, crew, width, *, kept=())',),
    'regrets': ('regrets(crews, present, crew, width, *, kept=())',),
    'carelesschecker': ('lets_careless(crews, present, crew, width, thing, *, kept=())',),
    'carelesspapers': ('careless_paper(crews, present, crew, width, *, kept=())',),
    'mending': ("least_offers(crews, present, crew, offers, width, *, goal='calm')",),
    'widths': ('widths(crews, present, crew, *, kept=())',),
    'wages': ('cheapest(crews, present, **wages)', 'price_of(crews, present, *lost, **wages)',
              'threshold(crews, present, person, **wages)'),
    'replaying': ('is_log(thing)', 'replayed(log)'),
    'eventreadings': ('read_event(text)', 'read_log(lines)'),
    'calmpapers': ('calm_paper(crews, present, crew, width, *, kept=())',),
}
LIST_METHODS = {
    'crews': 'property', 'people': 'property', 'size': 'property', 'is_good': 'property',
    'left': '(self, present)', 'lines': '(self)', '__len__': '(self)', '__eq__': '(self, other)',
}
READ = {'read': 'class (cls, text)'}
CLASSES = {
    'errors': {
        'CrewError': {}, 'PaperError': {}, 'TeamError': {}, 'TextError': {},
        'InvalidPaper': {'__init__': '(self, word, at)'}, 'UnknownPerson': {'__init__': '(self, person)'},
        'InvalidEvent': {'__init__': '(self, event, reason)'}, 'InvalidWidth': {'__init__': '(self, width)'},
        'NothingToUndo': {'__init__': '(self, steps)'}, 'InvalidText': {'__init__': '(self, line, field)'},
        'InvalidRow': {'__init__': '(self, row)'},
    },
    'lists': {
        'Crews': {**LIST_METHODS, **READ, 'minimal': 'static (*sets)', '__init__': '(self, *crews)'},
        'Groups': {**LIST_METHODS, **READ, '__init__': '(self, *groups)'},
        'Posts': {**LIST_METHODS, **READ, '__init__': '(self, *posts)'},
        'Webs': {**LIST_METHODS, **READ, '__init__': '(self, *ties)'},
        'Joined': {**LIST_METHODS, '__init__': '(self, *lists)'},
    },
    'watching': {
        'Watch': {
            '__init__': '(self, crews, crew, *, width=1, kept=())', 'present': 'property', 'crew': 'property', 'width': 'property',
            'is_calm': 'property', 'is_careless': 'property', 'set_width': '(self, value)', 'lose': '(self, person, answer=None)',
            'back': '(self, person, crew=None)', 'widen': '(self, width)', 'go': '(self, event)', 'advice': '(self, person)',
            'judge': '(self)', 'tried': '(self, *events)', 'log': '(self)', '__len__': '(self)', '__str__': '(self)',
            '__eq__': '(self, other)', 'undo': '(self)', 'do_all': '(self, *events, keep=False)', 'counts': '(self)',
        },
    },
    'desk': {'Desk': {'__init__': '(self)', 'say': '(self, row)', 'counts': '(self)'}},
}


def defined_in(module):
    tree = ast.parse((PACKAGE / (module + '.py')).read_text())
    return {node.name for node in tree.body if isinstance(node, (ast.FunctionDef, ast.ClassDef))}


class TestInterface(unittest.TestCase):
    def test_functions(self):
        for module, functions in FUNCTIONS.items():
            for function in functions:
                name = function.split('(')[0]
                self.assertIn(name, defined_in(module))
                found = getattr(importlib.import_module('crewbook.' + module), name)
                self.assertEqual(name + str(inspect.signature(found)), function)

    def test_classes_define_their_methods_themselves(self):
        for module, classes in CLASSES.items():
            for name, methods in classes.items():
                self.assertIn(name, defined_in(module))
                found = getattr(importlib.import_module('crewbook.' + module), name)
                for method, parameters in methods.items():
                    self.assertIn(method, vars(found), name)
                    self.check_method(vars(found)[method], parameters, (name, method))

    def check_method(self, method, parameters, place):
        if parameters == 'property':
            self.assertIsInstance(method, property, place)
        elif isinstance(method, (staticmethod, classmethod)):
            kind = 'static ' if isinstance(method, staticmethod) else 'class '
            self.assertEqual(kind + str(inspect.signature(method.__func__)), parameters, place)
        else:
            self.assertEqual(str(inspect.signature(method)), parameters, place)


if __name__ == '__main__':
    unittest.main()
