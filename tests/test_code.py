"""Points 7.1 to 7.4: code."""

import copy
import unittest

from aliasfold import code as code_file
from aliasfold.code import compile_core
from aliasfold.machine import run_code
from tests.programs import (
    ONE, PROGRAMS, THREE, TWO, ZERO, add, call, choose, fn, glo, let, loc, num, op, pair, prim, random_program,
)

# How many values an instruction of these words puts on the stack, less those that it takes away.
CHANGES = {"int": 1, "prim": 1, "global": 1, "place": 1, "kept": 1, "fn": 1, "put": -1, "jump": 0, "unless": -1}


def trees_of_programs():
    """All trees of the programs, and of some random ones."""
    programs = [(definitions, core) for definitions, core, _, _ in PROGRAMS]
    programs += [random_program(seed) for seed in range(300)]
    return [tree for definitions, core in programs for tree in [core, *[part for _, _, part in definitions]]]


def words(code):
    """The words of the instructions of a code itself."""
    return [instruction[0] for instruction in code[3]]


def made(code):
    """The instructions of a code itself that make functions."""
    return [instruction for instruction in code[3] if instruction[0] == "fn"]


def all_codes(code):
    """A code and all codes in it."""
    return [code] + [inner for _, part, _ in made(code) for inner in all_codes(part)]


def outer_variables(core, bound=frozenset()):
    """The numbers of the variables from around a tree that stand in it."""
    word = core[0]
    if word == "local":
        return {core[1]} - bound
    if word == "fn":
        return outer_variables(core[2], bound | set(core[1]))
    if word == "let":
        parts = [outer_variables(part, bound) for _, part in core[1]]
        return set().union(*parts, outer_variables(core[2], bound | {number for number, _ in core[1]}))
    if word == "if":
        return set().union(*[outer_variables(part, bound) for part in core[1:]])
    if word == "call":
        return set().union(*[outer_variables(part, bound) for part in (core[1], *core[2])])
    return set()


def parts_of(core):
    """The parts of a tree, from left to right."""
    word = core[0]
    if word == "fn":
        return [core[2]]
    if word == "let":
        return [part for _, part in core[1]] + [core[2]]
    if word == "if":
        return list(core[1:])
    return [core[1], *core[2]] if word == "call" else []


def functions_in(core):
    """The functions in a tree that are in no other function of it, from left to right."""
    found = []
    for part in parts_of(core):
        found += [part] if part[0] == "fn" else functions_in(part)
    return found


def lets_in(core):
    """The number of variables of lets in a tree, those in functions of it not counted."""
    own = len(core[1]) if core[0] == "let" else 0
    return own + sum(lets_in(part) for part in parts_of(core) if part[0] != "fn")


class CodeCase(unittest.TestCase):
    def assert_good_code(self, code, kept):
        """A code is made as points 7.1 and 7.2 say; its function keeps so many values."""
        word, parameters, places, instructions = code
        self.assertEqual(word, "code")
        self.assertGreaterEqual(places, parameters)
        for part in (code, instructions):
            self.assertIs(type(part), tuple)
        for instruction in instructions:
            self.assertIs(type(instruction), tuple)
            self.assert_good_instruction(instruction, code, kept)

    def assert_good_instruction(self, instruction, code, kept):
        word, *rest = instruction
        _, _, places, instructions = code
        if word in ("place", "put"):
            self.assertIn(rest[0], range(places))
        elif word == "kept":
            self.assertIn(rest[0], range(kept))
        elif word in ("jump", "unless"):
            self.assertIn(rest[0], range(len(instructions)))
        elif word == "fn":
            inner, sources = rest
            self.assertIs(type(sources), tuple)
            self.assertEqual(len(sources), len(set(sources)))
            for source in sources:
                self.assertIn(source[0], ("place", "kept"))
                self.assert_good_instruction(source, code, kept)
            self.assert_good_code(inner, len(sources))
        else:
            self.assertIn(word, ("int", "prim", "global", "call", "tail", "end"))
        self.assertEqual(len(rest), {"global": 2, "fn": 2, "end": 0}.get(word, 1))

    def assert_sound_stack(self, code):
        """Wherever a code goes on, there are the values that its instructions take away, and no others."""
        heights, rest = {}, [(0, 0)]
        while rest:
            at, height = rest.pop()
            if at in heights:
                self.assertEqual(heights[at], height)
                continue
            heights[at] = height
            instruction = code[3][at]
            word = instruction[0]
            if word == "end":
                self.assertEqual(height, 1)
            elif word == "tail":
                self.assertEqual(height, instruction[1] + 1)
            elif word == "call":
                self.assertGreater(height, instruction[1])
                rest.append((at + 1, height - instruction[1]))
            else:
                after = height + CHANGES[word]
                self.assertGreaterEqual(after, 0)
                if word in ("jump", "unless"):
                    rest.append((instruction[1], after))
                if word != "jump":
                    rest.append((at + 1, after))
        self.assertEqual(sorted(heights), list(range(len(code[3]))), "an instruction that is never reached")


class InterfaceTest(unittest.TestCase):
    def test_the_function_is_defined_in_the_file(self):
        self.assertEqual(compile_core.__module__, "aliasfold.code")
        self.assertIs(code_file.compile_core, compile_core)

    def test_the_argument_has_the_name_of_the_interface(self):
        self.assertEqual(compile_core(core=("int", 1))[0], "code")

    def test_the_argument_stays(self):
        for core in trees_of_programs():
            before = copy.deepcopy(core)
            code = compile_core(core)
            self.assertEqual(core, before)
            self.assertEqual(compile_core(core), code)


class ShapeTest(CodeCase):
    def test_the_codes_of_trees_without_parts(self):
        for core in [ONE, num(-3), num(10 ** 70), glo("a"), glo("...", "fn"), prim("+"), prim("second")]:
            self.assertEqual(compile_core(core), ("code", 0, 0, (core, ("end",))))

    def test_a_function_without_kept_values(self):
        code = compile_core(fn([4, 0], loc(0)))
        self.assertEqual(code, ("code", 0, 0, (("fn", ("code", 2, 2, (("place", 1), ("end",))), ()), ("end",))))

    def test_all_codes_are_made_of_the_instructions(self):
        for core in trees_of_programs():
            self.assert_good_code(compile_core(core), 0)

    def test_the_stack_in_all_codes(self):
        for core in trees_of_programs():
            for code in all_codes(compile_core(core)):
                self.assert_sound_stack(code)

    def test_parameters(self):
        for numbers in [[], [0], [3], [1, 0], [9, 5, 7, 2]]:
            code = compile_core(fn(numbers, ONE))
            self.assertEqual(code[1], 0)
            inner = made(code)[0][1]
            self.assertEqual(inner[1], len(numbers))
            self.assertGreaterEqual(inner[2], len(numbers))
            for at, number in enumerate(numbers):
                self.assertEqual(made(compile_core(fn(numbers, loc(number))))[0][1][3][0], ("place", at))

    def test_a_whole_tree_has_no_parameters_and_places_for_its_lets(self):
        for core in trees_of_programs():
            code = compile_core(core)
            self.assertEqual(code[1], 0)
            self.assertLessEqual(code[2], 0 if core[0] == "fn" else lets_in(core))

    def test_places_of_lets(self):
        row = let([(0, ONE), (1, TWO)], pair(loc(0), loc(1)))
        self.assertEqual(compile_core(row)[2], 2)
        self.assertEqual(made(compile_core(fn([0, 1, 2], row)))[0][1][2], 5)
        self.assertIn(compile_core(add(row, row))[2], (2, 4))
        self.assertIn(compile_core(let([(0, ONE)], let([(0, TWO)], loc(0))))[2], (1, 2))

    def test_jumps_of_an_if_lead_to_its_parts(self):
        for test, value in [(ZERO, 3), (ONE, 2)]:
            for core in [choose(test, TWO, THREE), add(choose(test, TWO, THREE), ZERO),
                         choose(choose(test, ONE, ZERO), TWO, THREE), let([(0, choose(test, TWO, THREE))], loc(0))]:
                code = compile_core(core)
                self.assertIn("unless", words(code))
                self.assertEqual(run_code([], code, 100)[0], ("value", value))


class LastCallTest(unittest.TestCase):
    def last_places(self, part):
        """Trees that end with a part, one in the other."""
        return [
            part, let([], part), let([(5, ONE)], part), choose(ONE, part, ONE), choose(ZERO, ONE, part),
            choose(ONE, part, part), let([(5, ONE)], let([(6, ONE)], part)), let([(5, ONE)], choose(ONE, part, ONE)),
            choose(ONE, let([(5, ONE)], part), ONE), choose(ZERO, ONE, let([(5, ONE)], part)),
            choose(ONE, choose(ONE, part, ONE), ONE), choose(ZERO, ONE, choose(ZERO, ONE, part)),
            choose(ONE, choose(ZERO, ONE, let([(5, ONE)], choose(ONE, part, TWO))), ONE),
        ]

    def other_places(self, part):
        """Trees that go on after a part; their own calls are last ones."""
        return [
            let([(5, part)], ONE), let([(5, ONE), (6, part)], ONE), choose(part, ONE, TWO), call(part),
            call(prim("first"), part), add(part, ONE), add(ONE, part), let([(5, let([], part))], ONE),
            add(choose(ONE, part, ONE), ONE), add(choose(ZERO, ONE, part), ONE),
            let([(5, choose(ONE, part, ONE))], ONE),
            choose(choose(ONE, part, ONE), ONE, ONE), choose(let([(5, ONE)], part), ONE, ONE),
            add(let([(5, ONE)], part), ONE), call(choose(ONE, part, ONE)),
        ]

    def all_ways(self, core):
        """The code of a tree as a whole tree, and as the body of a function."""
        whole = compile_core(core)
        body = made(compile_core(fn([0], core)))[0][1]
        inner = made(made(compile_core(fn([0], fn([], core))))[0][1])[0][1]
        return [whole, body, inner]

    def test_last_calls_are_tail(self):
        for core in self.last_places(call(glo("f"), ONE, TWO)):
            for code in self.all_ways(core):
                self.assertNotIn("call", words(code), core)
                self.assertIn(("tail", 2), code[3], core)

    def test_other_calls_are_call(self):
        for core in self.other_places(call(glo("f"), ONE, TWO, THREE)):
            for code in self.all_ways(core):
                self.assertIn(("call", 3), code[3], core)
                self.assertNotIn(("tail", 3), code[3], core)

    def test_calls_of_primitives_likewise(self):
        self.assertEqual([word for word in words(compile_core(add(add(ONE, TWO), op("first", ONE)))) if word in
                          ("call", "tail")], ["call", "call", "tail"])

    def test_a_function_in_a_part_has_last_calls_of_its_own(self):
        for core in self.other_places(fn([], call(glo("f"), ONE, TWO, THREE))):
            inner = made(compile_core(core))[0][1]
            self.assertEqual(words(inner)[-1], "tail")


class KeptTest(CodeCase):
    def sources(self, core):
        """The sources of the only function that stands in a tree, or in its body if it is a function."""
        code = compile_core(core)
        (found,) = made(code)
        return found[2]

    def inner_sources(self, core):
        """The sources of the only function in the only function of a tree."""
        (outer,) = made(compile_core(core))
        (inner,) = made(outer[1])
        return inner[2]

    def test_no_variable(self):
        for body in [ONE, glo("a"), loc(5), add(loc(5), loc(5)), let([(6, loc(5))], loc(6)), fn([7], loc(7))]:
            self.assertEqual(self.sources(let([(0, ONE), (1, TWO)], fn([5], body))), ())

    def test_each_variable_once_and_no_other(self):
        for body, numbers in [
            (loc(0), {0}), (loc(2), {2}), (pair(loc(0), loc(0)), {0}), (pair(loc(0), loc(2)), {0, 2}),
            (pair(loc(2), pair(loc(0), pair(loc(2), loc(0)))), {0, 2}), (choose(loc(1), loc(1), loc(0)), {0, 1}),
            (choose(ZERO, loc(2), ONE), {2}), (call(loc(1), loc(2), loc(0)), {0, 1, 2}), (let([(3, loc(1))], ONE), {1}),
            (let([(0, loc(0))], loc(0)), {0}), (let([(0, loc(1))], loc(0)), {1}), (let([(0, ONE)], loc(0)), set()),
            (let([(0, ONE)], loc(2)), {2}), (fn([0], loc(0)), set()), (fn([0], loc(1)), {1}), (fn([], loc(1)), {1}),
            (pair(fn([], loc(1)), loc(1)), {1}), (pair(fn([1], loc(1)), loc(1)), {1}), (fn([], fn([], loc(2))), {2}),
            (pair(let([(0, ONE)], loc(0)), loc(0)), {0}), (fn([], fn([0], pair(loc(0), loc(2)))), {2}),
            (pair(fn([], loc(0)), fn([], pair(loc(0), loc(1)))), {0, 1}),
        ]:
            sources = self.inner_sources(fn([0, 1, 2], fn([9], body)))
            self.assertEqual(len(sources), len(numbers), body)
            self.assertEqual(set(sources), {("place", number) for number in numbers}, body)

    def test_variables_from_farther_around_are_kept_by_all_functions_between(self):
        code = compile_core(fn([0, 1], fn([2, 3], fn([4, 5], pair(loc(0), pair(loc(3), loc(5)))))))
        first = made(code)[0]
        second = made(first[1])[0]
        third = made(second[1])[0]
        self.assertEqual(first[2], ())
        self.assertEqual(second[2], (("place", 0),))
        self.assertEqual(set(third[2]), {("kept", 0), ("place", 1)})
        self.assertEqual(len(third[2]), 2)
        self.assertEqual(made(third[1]), [])

    def test_kept_as_a_source(self):
        for body in [loc(1), pair(loc(1), loc(1)), fn([], loc(1))]:
            code = compile_core(fn([0, 1], fn([], pair(loc(1), fn([], body)))))
            outer = made(made(code)[0][1])[0]
            self.assertEqual(outer[2], (("place", 1),))
            self.assertEqual(made(outer[1])[0][2], (("kept", 0),))

    def test_the_innermost_variable_of_a_number_is_kept(self):
        sources = self.inner_sources(fn([0], let([(0, TWO)], fn([], loc(0)))))
        self.assertEqual(len(sources), 1)
        self.assertNotEqual(sources[0], ("place", 0))
        sources = self.inner_sources(fn([0], let([(0, fn([], loc(0)))], loc(0))))
        self.assertEqual(sources, (("place", 0),))

    def test_each_function_keeps_what_stands_in_it(self):
        for core in trees_of_programs():
            self.assert_kept(core, made(compile_core(core)))

    def assert_kept(self, core, instructions):
        """The functions of a tree itself keep as many values as variables from around stand in them."""
        functions = [core] if core[0] == "fn" else functions_in(core)
        self.assertEqual(len(functions), len(instructions))
        for function, (_, code, sources) in zip(functions, instructions):
            self.assertEqual(code[1], len(function[1]))
            self.assertEqual(len(sources), len(outer_variables(function)), function)
            self.assert_kept(function[2], made(code))
            self.assertLessEqual(code[2], code[1] + (0 if function[2][0] == "fn" else lets_in(function[2])))


class DeepTest(CodeCase):
    def test_deep_trees(self):
        for depth in [100, 130, 3000]:
            for wrap in [
                lambda part: add(part, ZERO), lambda part: choose(part, ONE, TWO),
                lambda part: let([(0, part)], loc(0)),
                lambda part: let([(0, ONE)], part), lambda part: choose(ONE, part, TWO),
            ]:
                core = ONE
                for _ in range(depth - 1):
                    core = wrap(core)
                self.assert_sound_stack(compile_core(core))
                self.assertEqual(run_code([], compile_core(core), 10 ** 6)[0], ("value", 1))

    def test_functions_deep_in_functions(self):
        for depth in [99, 130, 300]:
            core = loc(0)
            for _ in range(depth - 1):
                core = call(fn([1], core), TWO)
            code = compile_core(fn([0], core))
            count = 0
            while made(code):
                ((_, inner, sources),) = made(code)
                self.assertEqual(len(sources), 0 if count == 0 else 1)
                code, count = inner, count + 1
            self.assertEqual(count, depth)
            self.assertEqual(run_code([], compile_core(call(fn([0], core), THREE)), 10 ** 6)[0], ("value", 3))


if __name__ == "__main__":
    unittest.main()
