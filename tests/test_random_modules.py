"""Parts 2 to 4: random modules become the same units, or end in the same errors, by a second compiler."""

import copy
import unittest

from aliasfold.errors import DuplicateName, FoldError, InvalidRule
from aliasfold.modules import compile_module
from aliasfold.reader import format_datum
from aliasfold.units import read_unit, write_unit
from tests.expander import compile_second
from tests.rules_at_random import Maker
from tests.support import fields_of

SEEDS = 1500
# A rule may have several faults, and which of them is told is not promised.
RULE_FAULTS = (InvalidRule, DuplicateName)


def outcome(compiler, given, library):
    """The unit of a module, or None, and its fields, or the class and the name of its error."""
    try:
        unit = compiler(given, library)
    except FoldError as error:
        return None, (type(error), getattr(error, "name", None))
    return unit, fields_of(unit)


class RandomModuleTest(unittest.TestCase):
    def test_random_modules(self):
        compiled = failed = 0
        for seed in range(SEEDS):
            maker, first, second, exported = Maker(seed), {}, {}, {}
            for name in ["a", "b", "c"]:
                data = maker.module(name, exported)
                text = "\n".join(format_datum(form) for form in data)
                expected, wanted = outcome(compile_second, copy.deepcopy(data), second)
                unit, found = outcome(compile_module, text, first)
                if expected is None and wanted[0] in RULE_FAULTS:
                    self.assertIn(found[0], RULE_FAULTS, text)
                else:
                    self.assertEqual(found, wanted, text)
                if unit is None:
                    failed += 1
                    break
                compiled += 1
                first[name], second[name] = read_unit(write_unit(unit)), expected
                exported[name] = list(unit.exports)
        self.assertGreater(compiled, SEEDS // 2)
        self.assertGreater(failed, SEEDS // 2)
