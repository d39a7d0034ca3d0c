"""[20], [4]: the errors."""

import unittest

from firingrules import errors
from tests.support import any_values

FIELDS = {
    'Wrong': 'place', 'Twice': 'name', 'BadTable': 'at', 'BadRule': 'at', 'BadPair': 'at', 'Ring': 'members',
    'NoRule': 'name', 'Endless': None, 'TooMany': 'limit', 'Stopped': 'at', 'NoSave': 'name', 'NoEntry': 'at',
    'Nothing': None, 'NoText': None, 'NoCommand': None,
}


def made(name, thing):
    """An error of a class, constructed from a value if it takes one."""
    kind = getattr(errors, name)
    return kind() if FIELDS[name] is None else kind(thing)


class ErrorsTest(unittest.TestCase):
    def test_there_are_fifteen(self):
        self.assertEqual(len(FIELDS), 15)
        defined = [name for name, thing in vars(errors).items() if isinstance(thing, type)]
        self.assertEqual(sorted(defined), sorted(list(FIELDS) + ['RuleError']))

    def test_rule_error(self):
        self.assertEqual(errors.RuleError.__bases__, (ValueError,))
        for thing in any_values():
            error = errors.RuleError(thing)
            self.assertIs(error.__class__, errors.RuleError)
            self.assertEqual(vars(error), {})
            for name in FIELDS:
                self.assertNotIsInstance(error, getattr(errors, name))

    def test_each_is_a_direct_subclass(self):
        for name in FIELDS:
            self.assertEqual(getattr(errors, name).__bases__, (errors.RuleError,))
            self.assertEqual(getattr(errors, name).__name__, name)
            self.assertEqual(getattr(errors, name).__module__, 'firingrules.errors')

    def test_each_is_constructed_from_any_value(self):
        for thing in any_values():
            for name, field in FIELDS.items():
                error = made(name, thing)
                self.assertIs(error.__class__, getattr(errors, name))
                self.assertIsInstance(error, ValueError)
                for other in FIELDS:
                    self.assertEqual(isinstance(error, getattr(errors, other)), other == name)
                self.assertEqual(list(vars(error)), [] if field is None else [field])
                if field is not None:
                    self.assertIs(getattr(error, field), thing)

    def test_the_field_is_the_object_itself_later_too(self):
        for name, field in FIELDS.items():
            if field is None:
                continue
            many, table = [1], {'a': 1}
            first, second = made(name, many), made(name, table)
            many.append(2)
            table['b'] = 2
            self.assertIs(getattr(first, field), many)
            self.assertEqual(getattr(first, field), [1, 2])
            self.assertIs(getattr(second, field), table)
            self.assertEqual(getattr(second, field), {'a': 1, 'b': 2})

    def test_each_is_raised_and_caught(self):
        for name, field in FIELDS.items():
            with self.assertRaises(errors.RuleError) as caught:
                raise made(name, (1, 'a'))
            self.assertIs(caught.exception.__class__, getattr(errors, name))
            self.assertIsInstance(str(caught.exception), str)
            if field is not None:
                self.assertEqual(getattr(caught.exception, field), (1, 'a'))


if __name__ == '__main__':
    unittest.main()
