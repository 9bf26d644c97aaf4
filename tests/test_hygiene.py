"""Points 3.4 and 3.5: random programs, written with many names, always become the due core trees."""

import unittest

from aliasfold.errors import OutOfFuel, TooDeep, TooLarge
from aliasfold.modules import compile_module
from tests.hygiene import POOL, Program, TooBig

SEEDS = 400
# Without names in common nothing could be caught; with few names almost everything could.
POOLS = [POOL, ["x", "if", "+"], ["x", "y"], []]


def compiled(texts):
    """The units of both modules of a program, or None if it goes beyond a limit."""
    try:
        library = {"lib": compile_module(texts[0], {})}
        return library["lib"], compile_module(texts[1], library)
    except (OutOfFuel, TooDeep, TooLarge):
        return None


class HygieneTest(unittest.TestCase):
    def test_random_programs(self):
        met = 0
        for seed in range(SEEDS):
            program = Program(seed)
            try:
                cores = program.cores()
            except TooBig:
                continue
            for at, pool in enumerate(POOLS):
                texts = program.texts(seed + at, pool)
                units = compiled(texts)
                if units is not None:
                    met += 1
                    definitions = dict(units[1].definitions)
                    self.assertEqual([definitions["d0"], definitions["d1"]], cores, texts)
        self.assertGreater(met, SEEDS)
