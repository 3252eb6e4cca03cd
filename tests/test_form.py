"""The form of the package: the rules of LANGUAGE.md that a short look at the syntax can tell."""

import ast
import builtins
import unittest
from pathlib import Path

PACKAGE = Path(__file__).resolve().parent.parent / 'crewbook'
FILES = sorted(path for path in PACKAGE.rglob('*') if '__pycache__' not in path.parts)
ALLOWED_BUILTINS = set(
    'len range enumerate zip min max sum abs sorted reversed int str bool list tuple dict set isinstance ord repr any '
    'all divmod iter next ValueError KeyError IndexError LookupError ZeroDivisionError NotImplemented property '
    'staticmethod classmethod super map'.split())
FORBIDDEN_NODES = (
    ast.Global, ast.AsyncFunctionDef, ast.AsyncFor, ast.AsyncWith, ast.Await, ast.Div, ast.TryStar, ast.GeneratorExp,
    ast.Import,
)
BUILTIN_METHODS = set(
    'append clear copy count endswith extend find get index insert isalnum isalpha isdigit islower isspace isupper '
    'items join keys ljust lower lstrip partition pop remove replace reverse rfind rjust rpartition rsplit rstrip '
    'setdefault split splitlines startswith strip update upper values zfill bit_length'.split())
FORBIDDEN_NAMES = set('register mro elements open input law version_info type typing enum'.split())
SET_PLACES = ('sorted', 'len')


def trees():
    return {path: ast.parse(path.read_text()) for path in FILES}


def nodes(kind):
    return [(path, node) for path, tree in trees().items() for node in ast.walk(tree) if isinstance(node, kind)]


class TestForm(unittest.TestCase):
    def test_the_package_is_one_folder_of_python_files(self):
        self.assertIn(PACKAGE / '__init__.py', FILES)
        for path in FILES:
            self.assertEqual(path.suffix, '.py', path)
            self.assertTrue(path.stem.replace('_', 'a').isalnum() and path.stem == path.stem.lower(), path)

    def test_sizes_and_characters(self):
        for path in FILES:
            text = path.read_text()
            lines = text.splitlines()
            self.assertLessEqual(len(lines), 399, path)
            self.assertLessEqual(max([len(line) for line in lines], default=0), 120, path)
            self.assertTrue(all(' ' <= letter <= '~' or letter == '\n' for letter in text), path)
        for path, node in nodes(ast.FunctionDef):
            self.assertLessEqual(node.end_lineno - node.lineno + 1, 40, (path, node.name))

    def test_module_level(self):
        for path, tree in trees().items():
            for node in tree.body:
                plain = isinstance(node, (ast.ImportFrom, ast.FunctionDef, ast.ClassDef, ast.Assign))
                docstring = isinstance(node, ast.Expr) and isinstance(node.value, ast.Constant)
                self.assertTrue(plain or docstring, (path, node.lineno))

    def test_imports_name_the_file_that_defines_the_name(self):
        defined = {'crewbook.' + path.stem: {
            node.name if hasattr(node, 'name') else node.targets[0].id
            for node in tree.body if isinstance(node, (ast.FunctionDef, ast.ClassDef, ast.Assign))
        } for path, tree in trees().items()}
        for path, node in nodes(ast.ImportFrom):
            self.assertIn(node.module, defined, path)
            self.assertEqual(node.level, 0)
            for alias in node.names:
                self.assertIn(alias.name, defined[node.module], path)
                self.assertIsNone(alias.asname)

    def test_no_ring_of_imports(self):
        needs = {path.stem: [node.module.split('.')[1] for node in ast.walk(tree) if isinstance(node, ast.ImportFrom)]
                 for path, tree in trees().items()}
        while needs:
            free = [name for name, others in needs.items() if not any(other in needs for other in others)]
            self.assertTrue(free, needs)
            needs = {name: others for name, others in needs.items() if name not in free}

    def test_imports_are_used(self):
        for path, tree in trees().items():
            used = {node.id for node in ast.walk(tree) if isinstance(node, ast.Name)}
            for node in ast.walk(tree):
                if isinstance(node, ast.ImportFrom):
                    self.assertLessEqual({alias.name for alias in node.names}, used, path)

    def test_nothing_forbidden(self):
        self.assertEqual([(path, node.lineno) for path, node in nodes(FORBIDDEN_NODES)], [])
        for path, node in nodes(ast.Constant):
            self.assertNotIsInstance(node.value, (float, complex), (path, node.lineno))
            if isinstance(node.value, str):
                self.assertNotIn('%', node.value, (path, node.lineno))

    def test_builtins(self):
        for path, node in nodes(ast.Name):
            if isinstance(node.ctx, ast.Load) and hasattr(builtins, node.id):
                self.assertIn(node.id, ALLOWED_BUILTINS, (path, node.lineno))
            elif not isinstance(node.ctx, ast.Load):
                self.assertFalse(hasattr(builtins, node.id), (path, node.lineno, node.id))
        for path, node in nodes((ast.arg, ast.FunctionDef, ast.ClassDef)):
            name = node.arg if isinstance(node, ast.arg) else node.name
            self.assertFalse(hasattr(builtins, name) and not name.startswith('__'), (path, node.lineno, name))
            self.assertNotIn(name, FORBIDDEN_NAMES)

    def test_methods_of_values(self):
        own = {node.name for _, node in nodes(ast.FunctionDef)}
        for path, node in nodes(ast.Call):
            if isinstance(node.func, ast.Attribute):
                self.assertIn(node.func.attr, BUILTIN_METHODS | own, (path, node.lineno))

    def test_sets_stand_in_few_places(self):
        places = set()
        for _, node in nodes(ast.Call):
            if isinstance(node.func, ast.Name) and node.func.id in SET_PLACES and not node.keywords:
                places.update(node.args)
        for path, node in nodes((ast.Set, ast.SetComp)):
            self.assertIn(node.lineno, {place.lineno for place in places}, (path, node.lineno))
        for path, node in nodes(ast.Call):
            if isinstance(node.func, ast.Name) and node.func.id == 'set':
                self.fail((path, node.lineno))

    def test_loops_go_over_zip_and_the_like_at_once(self):
        quick = ('zip', 'enumerate', 'reversed', 'range')
        good = set()
        for _, node in nodes((ast.For, ast.comprehension)):
            good.add((node.iter.lineno, node.iter.col_offset))
        for _, node in nodes(ast.Call):
            if isinstance(node.func, ast.Name) and node.func.id in ('list', 'tuple', 'dict', 'sorted', 'sum'):
                good.update((part.lineno, part.col_offset) for part in node.args)
        for path, node in nodes(ast.Call):
            if isinstance(node.func, ast.Name) and node.func.id in quick:
                self.assertIn((node.lineno, node.col_offset), good, (path, node.lineno))

    def test_only_properties_with_a_setter_are_assigned(self):
        names = set()
        for _, node in nodes(ast.FunctionDef):
            if any(isinstance(one, ast.Name) and one.id == 'property' for one in node.decorator_list):
                names.add(node.name)
        for _, node in nodes(ast.FunctionDef):
            if any(isinstance(one, ast.Attribute) and one.attr == 'setter' for one in node.decorator_list):
                names.discard(node.name)
        for path, node in nodes(ast.Attribute):
            if isinstance(node.ctx, ast.Store):
                self.assertNotIn(node.attr, names, (path, node.lineno))

    def test_finally_only_counts(self):
        for path, node in nodes(ast.Try):
            for row in node.finalbody:
                self.assertIsInstance(row, ast.AugAssign, (path, row.lineno))
                self.assertIsInstance(row.target, ast.Attribute, (path, row.lineno))
                self.assertIsInstance(row.value, ast.Constant, (path, row.lineno))

    def test_only_own_errors_are_caught(self):
        own = {node.name for path, node in nodes(ast.ClassDef) if path.stem == 'errors'}
        for path, node in nodes(ast.ExceptHandler):
            self.assertIn(node.type.id, own, (path, node.lineno))

    def test_methods_with_two_underscores_return_plainly(self):
        for path, node in nodes(ast.FunctionDef):
            if node.name in ('__len__', '__str__', '__repr__'):
                self.assertIsInstance(node.body[-1], ast.Return, (path, node.lineno))
                for row in ast.walk(node):
                    if isinstance(row, ast.Return):
                        self.assertIsInstance(row.value, (ast.Constant, ast.JoinedStr, ast.Call), (path, row.lineno))

    def test_what_properties_run_assigns_no_attributes(self):
        functions = {}
        for _, node in nodes(ast.FunctionDef):
            functions.setdefault(node.name, []).append(node)
        waiting = [node for _, node in nodes(ast.FunctionDef)
                   if any(isinstance(one, ast.Name) and one.id == 'property' for one in node.decorator_list)]
        seen = []
        while waiting:
            node = waiting.pop()
            if node not in seen:
                seen.append(node)
                for part in ast.walk(node):
                    if isinstance(part, ast.Attribute):
                        self.assertIsInstance(part.ctx, ast.Load, (node.name, part.lineno))
                    if isinstance(part, ast.Call):
                        called = part.func.id if isinstance(part.func, ast.Name) else part.func.attr
                        self.assertNotIn(called, {'append', 'extend', 'pop', 'setdefault', 'update', 'insert', 'remove', 'clear'})
                        waiting += functions.get(called, [])
        self.assertGreater(len(seen), 20)


if __name__ == '__main__':
    unittest.main()
