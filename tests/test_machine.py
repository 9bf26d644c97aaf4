"""Points 7.2, 7.3 and 7.5: the stack machine."""

import copy
import unittest

from aliasfold import machine as machine_file
from aliasfold.code import compile_core
from aliasfold.machine import run_code
from aliasfold.plain import run_plain
from tests.programs import (
    CHAIN, DEEP, EVEN, LEFT, LOOP, NO_FUNCTION, ODD, ONE, PROGRAMS, THREE, TWICE, TWO, WRONG_COUNT, ZERO,
    add, call, choose, fn, glo, let, loc, num, op, pair, prim, random_program,
)

MANY = 10 ** 9
END = ("end",)


def code(*instructions, parameters=0, places=0):
    return ("code", parameters, places, instructions)


def compiled(definitions):
    return [(module, name, compile_core(core)) for module, name, core in definitions]


def run(core, definitions=(), most=MANY):
    """What the machine says of a program that is given by its trees."""
    return run_code(compiled(definitions), compile_core(core), most)


# Takes two values, and gives the first one.
FIRST_OF_TWO = code(("place", 0), END, parameters=2, places=2)
# Takes a function, and calls it with 5; then adds 1.
CALLS = code(("place", 0), ("int", 5), ("call", 1), ("put", 1), ("prim", "+"), ("place", 1), ("int", 1), ("tail", 2),
             parameters=1, places=2)
# Takes nothing, and gives the value that it keeps.
KEEPER = code(("kept", 0), END)

# A code, the outcome, the steps and the greatest number of frames.
CODES = [
    (code(("int", 7), END), ("value", 7), 2, 1),
    (code(("prim", "*"), END), ("value", "fn"), 2, 1),
    (code(("int", 7), ("int", 8), END), ("value", 8), 3, 1),
    (code(("global", "m", "none"), END), ("error", "early"), 1, 1),
    (code(("int", 3), ("put", 1), ("int", 4), ("put", 0), ("place", 1), END, places=2), ("value", 3), 6, 1),
    (code(("int", 3), ("put", 0), ("int", 4), ("put", 0), ("place", 0), END, places=1), ("value", 4), 6, 1),
    (code(("int", 9), ("int", 3), ("put", 0), END, places=1), ("value", 9), 4, 1),
    (code(("jump", 2), ("int", 1), ("int", 2), END), ("value", 2), 3, 1),
    (code(("jump", 3), ("int", 1), END, ("jump", 1)), ("value", 1), 4, 1),
    (code(("int", 0), ("unless", 4), ("int", 1), END, ("int", 2), END), ("value", 2), 4, 1),
    (code(("int", 5), ("unless", 4), ("int", 1), END, ("int", 2), END), ("value", 1), 4, 1),
    (code(("int", -1), ("unless", 4), ("int", 1), END, ("int", 2), END), ("value", 1), 4, 1),
    (code(("prim", "="), ("unless", 4), ("int", 1), END, ("int", 2), END), ("value", 1), 4, 1),
    (code(("int", 6), ("int", 0), ("unless", 3), END), ("value", 6), 4, 1),
    (code(("prim", "-"), ("int", 9), ("int", 4), ("call", 2), END), ("value", 5), 5, 1),
    (code(("prim", "-"), ("int", 9), ("int", 4), ("tail", 2)), ("value", 5), 4, 1),
    (code(("int", 1), ("prim", "-"), ("int", 9), ("int", 4), ("tail", 2), ("int", 3), END), ("value", 5), 5, 1),
    (code(("int", 1), ("prim", "pair"), ("int", 2), ("int", 3), ("call", 2), END), ("value", ("pair", 2, 3)), 6, 1),
    (code(("int", 1), ("prim", "-"), ("int", 9), ("int", 4), ("call", 2), ("put", 0), END, places=1),
     ("value", 1), 7, 1),
    (code(("fn", FIRST_OF_TWO, ()), END), ("value", "fn"), 2, 1),
    (code(("fn", FIRST_OF_TWO, ()), ("int", 1), ("int", 2), ("call", 2), END), ("value", 1), 7, 2),
    (code(("fn", FIRST_OF_TWO, ()), ("int", 1), ("int", 2), ("tail", 2)), ("value", 1), 6, 1),
    (code(("fn", FIRST_OF_TWO, ()), ("int", 1), ("call", 1), END), ("error", "count"), 3, 1),
    (code(("fn", FIRST_OF_TWO, ()), ("int", 1), ("tail", 1)), ("error", "count"), 3, 1),
    (code(("int", 1), ("call", 0), END), ("error", "kind"), 2, 1),
    (code(("int", 1), ("tail", 0)), ("error", "kind"), 2, 1),
    (code(("prim", "first"), ("call", 0), END), ("error", "count"), 2, 1),
    (code(("prim", "first"), ("int", 1), ("tail", 1)), ("error", "kind"), 3, 1),
    (code(("int", 8), ("put", 0), ("fn", KEEPER, (("place", 0),)), ("int", 9), ("put", 0), ("call", 0), END, places=1),
     ("value", 8), 9, 2),
    (code(("fn", CALLS, ()), ("fn", code(("place", 0), END, parameters=1, places=1), ()), ("call", 1), END),
     ("value", 6), 14, 3),
    (code(("fn", CALLS, ()), ("prim", "first"), ("call", 1), END), ("error", "kind"), 6, 2),
    (code(("fn", CALLS, ()), ("fn", KEEPER, ()), ("tail", 1)), ("error", "count"), 6, 1),
    (code(("int", 7), ("put", 0), ("int", 8), ("put", 1),
          ("fn", code(("fn", code(("kept", 1), END), (("place", 0), ("kept", 0))), ("tail", 0), parameters=1, places=1),
           (("place", 1),)), ("int", 5), ("tail", 1), places=2), ("value", 8), 11, 1),
]


class InterfaceTest(unittest.TestCase):
    def test_the_function_is_defined_in_the_file(self):
        self.assertEqual(run_code.__module__, "aliasfold.machine")
        self.assertIs(machine_file.run_code, run_code)

    def test_arguments_have_the_names_of_the_interface(self):
        self.assertEqual(run_code(definitions=[], code=code(("int", 1), END), most=2), (("value", 1), 2, 1))

    def test_the_arguments_stay(self):
        for definitions, core, _, _ in PROGRAMS:
            codes, last = compiled(definitions), compile_core(core)
            before = copy.deepcopy((codes, last))
            run_code(codes, last, MANY)
            self.assertEqual((codes, last), before)

    def test_a_run_does_not_know_of_the_runs_before(self):
        one = code(("int", 1), END)
        last = code(("global", "m", "one"), END)
        self.assertEqual(run_code([("m", "one", one)], last, MANY), (("value", 1), 4, 1))
        self.assertEqual(run_code([], last, MANY), (("error", "early"), 1, 1))
        self.assertEqual(run(call(glo("deep"), TWO), [DEEP]), run(call(glo("deep"), TWO), [DEEP]))


class InstructionsTest(unittest.TestCase):
    def test_outcomes_steps_and_frames(self):
        for at, (last, outcome, steps, frames) in enumerate(CODES):
            with self.subTest(at=at):
                self.assertEqual(run_code([], last, MANY), (outcome, steps, frames))

    def test_exactly_as_many_steps_as_are_needed_and_fewer(self):
        for at, (last, outcome, steps, frames) in enumerate(CODES):
            with self.subTest(at=at):
                self.assertEqual(run_code([], last, steps), (outcome, steps, frames))
                for most in range(steps):
                    self.assertEqual(run_code([], last, most)[:2], (("steps",), most))

    def test_in_definitions(self):
        for at, (last, outcome, steps, frames) in enumerate(CODES):
            with self.subTest(at=at):
                definitions = [("m", "a", code(("int", 1), END)), ("m", "b", last)]
                found = run_code(definitions, code(("global", "m", "b"), END), MANY)
                left = 2 if outcome[0] == "value" else 0
                self.assertEqual(found, (outcome, 2 + steps + left, frames))

    def test_a_jump_back_goes_on_for_ever(self):
        self.assertEqual(run_code([], code(("jump", 0)), 1000), (("steps",), 1000, 1))

    def test_definitions_of_the_same_name_in_two_modules(self):
        definitions = [("m", "a", code(("int", 1), END)), ("n", "a", code(("int", 2), END))]
        self.assertEqual(run_code(definitions, code(("global", "m", "a"), END), MANY), (("value", 1), 6, 1))
        self.assertEqual(run_code(definitions, code(("global", "n", "a"), END), MANY), (("value", 2), 6, 1))

    def test_a_function_keeps_values_for_each_time_that_it_is_made(self):
        maker = code(("fn", KEEPER, (("place", 0),)), END, parameters=1, places=1)
        last = code(
            ("global", "m", "maker"), ("int", 1), ("call", 1), ("put", 0), ("global", "m", "maker"), ("int", 2),
            ("call", 1), ("put", 1), ("prim", "pair"), ("place", 0), ("call", 0), ("place", 1), ("call", 0),
            ("tail", 2), places=2)
        definitions = [("m", "maker", code(("fn", maker, ()), END))]
        self.assertEqual(run_code(definitions, last, MANY)[0], ("value", ("pair", 1, 2)))

    def test_each_call_has_places_of_its_own(self):
        # The inner call fills its place with 0; the outer one still has its own value.
        inner = code(("int", 0), ("put", 0), ("place", 0), END, parameters=1, places=1)
        outer = code(("prim", "pair"), ("fn", inner, ()), ("place", 0), ("call", 1), ("place", 0), ("tail", 2),
                     parameters=1, places=1)
        last = code(("fn", outer, ()), ("int", 4), ("tail", 1))
        self.assertEqual(run_code([], last, MANY), (("value", ("pair", 0, 4)), 13, 2))

    def test_a_function_keeps_its_values_when_its_places_change(self):
        # Each call takes what is kept into a place and changes that place.
        inner = code(("kept", 0), ("put", 0), ("int", 9), ("put", 0), ("kept", 0), END, places=1)
        last = code(("int", 3), ("put", 0), ("fn", inner, (("place", 0),)), ("put", 1), ("place", 1), ("call", 0),
                    ("put", 2), ("place", 1), ("tail", 0), places=3)
        self.assertEqual(run_code([], last, MANY)[0], ("value", 3))


class SameOutcomeTest(unittest.TestCase):
    def assert_same(self, definitions, core, most=MANY):
        """The machine has the outcome of the plain meaning, within the steps that point 7.5 names."""
        outcome, steps = run_plain(definitions, core, most)
        if outcome == ("steps",):
            return
        bound = 3 * steps + len(definitions) + 1
        codes, last = compiled(definitions), compile_core(core)
        found, needed, frames = run_code(codes, last, bound)
        self.assertEqual(found, outcome)
        self.assertGreaterEqual(frames, 1)
        self.assertLessEqual(needed, bound)
        self.assertEqual(run_code(codes, last, needed), (found, needed, frames))
        self.assertEqual(run_code(codes, last, needed - 1)[:2], (("steps",), needed - 1))

    def test_programs(self):
        for at, (definitions, core, expected, _) in enumerate(PROGRAMS):
            with self.subTest(at=at):
                self.assertEqual(run(core, definitions)[0], expected)
                self.assert_same(definitions, core)

    def test_random_programs(self):
        for seed in range(3000):
            definitions, core = random_program(seed)
            with self.subTest(seed=seed):
                self.assert_same(definitions, core, 1000)

    def test_no_steps_are_allowed(self):
        for core in [ONE, NO_FUNCTION, glo("a")]:
            self.assertEqual(run(core, (), 0)[:2], (("steps",), 0))
            self.assertEqual(run(ONE, [("m", "a", core)], 0)[:2], (("steps",), 0))

    def test_steps_of_small_programs(self):
        self.assertEqual(run(ONE), (("value", 1), 2, 1))
        self.assertEqual(run(glo("a"), [("m", "a", ONE)]), (("value", 1), 4, 1))
        self.assertEqual(run(add(ONE, TWO)), (("value", 3), 4, 1))
        self.assertEqual(run(let([(0, ONE)], loc(0))), (("value", 1), 4, 1))
        self.assertEqual(run(call(fn([0], loc(0)), ONE)), (("value", 1), 5, 1))

    def test_a_lack_of_steps_in_a_definition(self):
        endless = call(fn([0], call(loc(0), loc(0))), fn([0], call(loc(0), loc(0))))
        self.assertEqual(run(ONE, [("m", "a", endless)], 1000), (("steps",), 1000, 1))

    def test_an_error_ends_the_program_in_a_definition(self):
        for fault, word in [(NO_FUNCTION, "kind"), (WRONG_COUNT, "count"), (glo("b"), "early")]:
            found, steps, frames = run(ONE, [("m", "a", fault), ("m", "b", ONE)])
            self.assertEqual((found, frames), (("error", word), 1))
            self.assert_same([("m", "a", fault), ("m", "b", ONE)], ONE)

    def test_long_programs(self):
        for definitions, core in [
            ([LOOP], call(glo("loop"), num(30000))), ([DEEP], call(glo("deep"), num(20000))),
            ([EVEN, ODD], call(glo("even"), num(20001))), ([CHAIN], call(glo("chain"), num(100000), ZERO)),
            ([LEFT], call(glo("left"), num(20000), ZERO)), ([TWICE], call(glo("twice"), num(20000), ZERO)),
        ]:
            self.assert_same(definitions, core)


class FramesTest(unittest.TestCase):
    def frames(self, core, definitions=()):
        return run(core, definitions)[2]

    def test_a_program_without_calls_has_one_frame(self):
        for core in [ONE, fn([], ONE), let([(0, ONE)], loc(0)), choose(ONE, TWO, THREE), glo("a")]:
            self.assertEqual(self.frames(core), 1)
            self.assertEqual(self.frames(core, [("m", "a", ONE), ("m", "b", TWO)]), 1)

    def test_primitives_have_no_frames(self):
        self.assertEqual(self.frames(add(add(ONE, TWO), op("first", pair(ONE, add(ONE, ONE))))), 1)
        self.assertEqual(self.frames(let([(0, prim("+"))], add(call(loc(0), ONE, TWO), ONE))), 1)

    def test_a_call_that_is_not_a_last_one_adds_a_frame(self):
        one = call(fn([], ONE))
        for core in [
            add(one, ONE), add(ONE, one), let([(0, one)], ONE), choose(one, ONE, ONE), op("first", pair(one, ONE)),
            add(choose(ONE, one, ONE), ONE), add(choose(ZERO, ONE, one), ONE), add(let([], one), ONE), add(one, one),
        ]:
            self.assertEqual(self.frames(core), 2, core)
            self.assertEqual(self.frames(call(fn([], core))), 2, core)
            self.assertEqual(self.frames(ONE, [("m", "a", core)]), 2, core)
            self.assertEqual(self.frames(add(call(fn([], core)), ONE)), 3, core)

    def test_what_is_called_is_carried_out_in_a_frame_of_its_own(self):
        self.assertEqual(self.frames(call(call(fn([], fn([], ONE))))), 2)
        self.assertEqual(self.frames(call(call(call(fn([], fn([], fn([], ONE))))))), 2)

    def test_the_greatest_number_of_frames_is_told_when_there_are_fewer_again(self):
        one = call(fn([], ONE))
        self.assertEqual(self.frames(let([(0, add(call(fn([], add(one, ONE))), ONE))], ONE)), 3)
        self.assertEqual(self.frames(ONE, [("m", "a", add(one, ONE)), ("m", "b", ONE)]), 2)

    def test_the_frames_of_an_error_and_of_a_lack_of_steps(self):
        deep = call(fn([], add(call(fn([], add(NO_FUNCTION, ONE))), ONE)))
        self.assertEqual(run(add(deep, ONE))[::2], (("error", "kind"), 3))
        endless = ("m", "endless", fn([], add(call(glo("endless")), ONE)))
        found, steps, frames = run(call(glo("endless")), [endless], 1000)
        self.assertEqual((found, steps), (("steps",), 1000))
        # The definition and the first call take 4 steps, each further frame takes 3.
        self.assertEqual(frames, 1 + (1000 - 4) // 3)

    def test_calls_deep_in_calls(self):
        for many in [0, 1, 2, 10, 20000]:
            self.assertEqual(run(call(glo("deep"), num(many)), [DEEP])[::2], (("value", many), 1 + many))
            self.assertEqual(run(add(call(glo("deep"), num(many)), ZERO), [DEEP])[::2], (("value", many), 2 + many))

    def again(self, wrap):
        """A function that counts down by last calls within something."""
        return ("m", "again", fn([0], choose(loc(0), wrap(call(glo("again"), op("-", loc(0), ONE))), num(7))))

    def test_last_calls_of_each_kind_add_no_frame(self):
        for wrap in [
            lambda part: part, lambda part: choose(ONE, part, ONE), lambda part: choose(ZERO, ONE, part),
            lambda part: choose(prim("+"), part, ONE), lambda part: let([(1, ONE)], part), lambda part: let([], part),
            lambda part: let([(1, ONE)], let([(2, loc(1))], part)),
            lambda part: let([(1, ONE)], choose(ONE, part, ONE)),
            lambda part: choose(ONE, let([(1, ONE)], choose(ZERO, ONE, let([(2, ONE)], part))), ONE),
            lambda part: call(fn([], part)), lambda part: call(fn([1], let([(2, ONE)], part)), ONE),
        ]:
            again = self.again(wrap)
            for many in [1, 2, 3000]:
                core = call(glo("again"), num(many))
                self.assertEqual(run(core, [again])[::2], (("value", 7), 1))
                self.assertEqual(run(wrap(ONE), [again, ("m", "use", core)])[2], 1)
                self.assertEqual(run(add(core, ONE), [again])[::2], (("value", 8), 2))

    def test_last_calls_of_definitions_and_of_the_last_tree_add_no_frame(self):
        loop = call(glo("loop"), THREE)
        for core in [
            loop, let([(0, ONE)], loop), choose(ONE, loop, ONE), choose(ZERO, ONE, loop),
            let([(0, ONE)], choose(ONE, let([], loop), ONE)), call(fn([], loop)),
        ]:
            self.assertEqual(run(core, [LOOP])[::2], (("value", 7), 1))
            self.assertEqual(run(glo("a"), [LOOP, ("m", "a", core)])[::2], (("value", 7), 1))

    def test_two_functions_that_call_each_other_last(self):
        self.assertEqual(run(call(glo("even"), num(20001)), [EVEN, ODD])[::2], (("value", 0), 1))

    def test_a_call_that_is_not_a_last_one_adds_a_frame_each_time(self):
        for wrap in [
            lambda part: add(part, ONE), lambda part: let([(1, part)], loc(1)), lambda part: choose(part, ONE, ONE),
            lambda part: let([(1, ONE), (2, part)], loc(1)), lambda part: op("first", pair(part, ONE)),
            lambda part: call(fn([1], loc(1)), part), lambda part: choose(choose(ONE, part, ONE), ONE, ONE),
        ]:
            again = self.again(wrap)
            for many in [1, 2, 500]:
                self.assertEqual(run(call(glo("again"), num(many)), [again])[2], 1 + many)


if __name__ == "__main__":
    unittest.main()
