"""What the tests of modules and macros share."""

import unittest

from aliasfold.errors import FoldError
from aliasfold.modules import compile_module


def unit_of(text, *library):
    """The unit of a module's text; the library is made of units."""
    return compile_module(text, {unit.name: unit for unit in library})


def core_of(expression, forms="", *library):
    """The core tree of an expression in a module `m` that has some other forms."""
    unit = unit_of(f"(module m) {forms} (define it {expression})", *library)
    return dict(unit.definitions)["it"]


def fields_of(unit):
    return (unit.name, unit.imports, unit.exports, unit.macros, unit.definitions)


class FoldCase(unittest.TestCase):
    def assert_error(self, cls, action, *arguments, **fields):
        """A call raises an error of this very class, with these fields."""
        with self.assertRaises(FoldError, msg=arguments) as caught:
            action(*arguments)
        self.assertIs(type(caught.exception), cls, arguments)
        for name, value in fields.items():
            self.assertEqual(getattr(caught.exception, name), value, arguments)

    def assert_core(self, expected, expression, forms="", *library):
        self.assertEqual(core_of(expression, forms, *library), expected, expression)

    def assert_core_error(self, cls, expression, forms="", *library, **fields):
        self.assert_error(cls, core_of, expression, forms, *library, **fields)
