import unittest

from crewbook import errors

FIELDS = {
    'InvalidPaper': ('PaperError', ('word', 'at')),
    'UnknownPerson': ('TeamError', ('person',)),
    'InvalidEvent': ('TeamError', ('event', 'reason')),
    'InvalidWidth': ('TeamError', ('width',)),
    'NothingToUndo': ('TeamError', ('steps',)),
    'InvalidText': ('TextError', ('line', 'field')),
    'InvalidRow': ('TextError', ('row',)),
}


class Silent:
    """An object that does not let itself be inspected."""

    def __eq__(self, other):
        raise AssertionError('compared')

    __hash__ = None

    def __bool__(self):
        raise AssertionError('tested')

    def __len__(self):
        raise AssertionError('measured')

    def __str__(self):
        raise AssertionError('shown')

    __repr__ = __str__


class TestErrors(unittest.TestCase):
    def test_families_stand_directly_below_the_base(self):
        self.assertEqual(errors.CrewError.__bases__, (ValueError,))
        for name in ('PaperError', 'TeamError', 'TextError'):
            self.assertEqual(getattr(errors, name).__bases__, (errors.CrewError,))

    def test_each_error_stands_directly_below_its_family(self):
        for name, (family, _) in FIELDS.items():
            self.assertEqual(getattr(errors, name).__bases__, (getattr(errors, family),), name)

    def test_errors_keep_the_very_objects(self):
        for name, (_, fields) in FIELDS.items():
            for make in (Silent, list, dict, object, lambda: [[1.5]], lambda: None, lambda: True):
                values = [make() for _ in fields]
                for error in (getattr(errors, name)(*values),
                              getattr(errors, name)(**dict(zip(fields, values)))):
                    self.assertEqual(sorted(vars(error)), sorted(fields))
                    for field, value in zip(fields, values):
                        self.assertIs(getattr(error, field), value)

    def test_errors_take_exactly_their_fields(self):
        for name, (_, fields) in FIELDS.items():
            error = getattr(errors, name)
            for count in (0, len(fields) - 1, len(fields) + 1):
                with self.assertRaises(TypeError):
                    error(*[1] * count)
            with self.assertRaises(TypeError):
                error(*[1] * len(fields), more=1)

    def test_errors_are_caught_as_their_family(self):
        with self.assertRaises(errors.CrewError):
            raise errors.InvalidRow('x')
        with self.assertRaises(ValueError):
            raise errors.InvalidPaper('shape', -1)


if __name__ == '__main__':
    unittest.main()
