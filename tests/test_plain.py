"""Points 6.1 to 6.6: what a program means."""

import copy
import unittest

from aliasfold import plain
from aliasfold.plain import run_plain
from tests import oracle
from tests.programs import (
    CHAIN, DEEP, EVEN, LEFT, LOOP, NO_FUNCTION, ODD, ONE, PROGRAMS, THREE, TWICE, TWO, VALUE_OF_ONE, WRONG_COUNT, ZERO,
    add, call, choose, fn, glo, let, loc, num, op, pair, prim, random_program,
)

MANY = 10 ** 9
TEN_60 = 10 ** 60


def power(exponent):
    """A tree with 10 ** exponent as its value, for an exponent from 40 to 78."""
    return op("*", num(10 ** 39), num(10 ** (exponent - 39)))


def outcome(core, definitions=()):
    return run_plain(list(definitions), core, MANY)[0]


def pairs_shown(shown):
    """The number of pairs in what is shown, and the greatest number of pairs that one of them lies in."""
    many, deepest, rest = 0, -1, [(shown, 0)]
    while rest:
        part, around = rest.pop()
        if isinstance(part, tuple):
            many, deepest = many + 1, max(deepest, around)
            rest.extend([(part[1], around + 1), (part[2], around + 1)])
    return many, deepest


class PlainCase(unittest.TestCase):
    def assert_outcome(self, expected, core, definitions=()):
        self.assertEqual(outcome(core, definitions), expected, core)

    def assert_error(self, word, core, definitions=()):
        self.assert_outcome(("error", word), core, definitions)


class InterfaceTest(unittest.TestCase):
    def test_the_function_is_defined_in_the_file(self):
        self.assertEqual(run_plain.__module__, "aliasfold.plain")
        self.assertIs(plain.run_plain, run_plain)

    def test_arguments_have_the_names_of_the_interface(self):
        self.assertEqual(run_plain(definitions=[], core=("int", 1), most=1), (("value", 1), 1))

    def test_the_example_of_the_interface(self):
        definitions = [("m", "one", ("int", 1))]
        core = ("call", ("prim", "+"), (("global", "m", "one"), ("int", 2)))
        self.assertEqual(run_plain(definitions, core, 100), (("value", 3), 5))

    def test_the_arguments_stay(self):
        for definitions, core, expected, steps in PROGRAMS:
            before = copy.deepcopy((definitions, core))
            run_plain(definitions, core, MANY)
            self.assertEqual((definitions, core), before)

    def test_a_run_does_not_know_of_the_runs_before(self):
        run_plain(VALUE_OF_ONE, glo("one"), MANY)
        self.assertEqual(run_plain([], glo("one"), MANY), (("error", "early"), 1))
        for _ in range(2):
            self.assertEqual(run_plain([DEEP], call(glo("deep"), TWO), MANY), (("value", 2), 29))

    def test_no_error_of_python_for_what_is_beyond_a_limit(self):
        self.assertEqual(outcome(num(10 ** 70)), ("value", 10 ** 70))
        self.assertEqual(outcome(fn([2000000000], loc(2000000000))), ("value", "fn"))
        self.assertEqual(outcome(let([(2000000000, ONE)], loc(2000000000))), ("value", 1))


class ProgramsTest(unittest.TestCase):
    def test_outcomes_and_steps(self):
        for at, (definitions, core, expected, steps) in enumerate(PROGRAMS):
            with self.subTest(at=at, core=core):
                self.assertEqual(run_plain(definitions, core, MANY), (expected, steps))

    def test_exactly_as_many_steps_as_are_needed_and_fewer(self):
        for at, (definitions, core, expected, steps) in enumerate(PROGRAMS):
            with self.subTest(at=at, core=core):
                self.assertEqual(run_plain(definitions, core, steps), (expected, steps))
                for most in range(steps):
                    self.assertEqual(run_plain(definitions, core, most), (("steps",), most))

    def test_random_programs_as_the_oracle_carries_them_out(self):
        for seed in range(1500):
            definitions, core = random_program(seed)
            with self.subTest(seed=seed):
                expected, steps = oracle.outcome_of(definitions, core, 1000)
                self.assertEqual(run_plain(definitions, core, 1000), (expected, steps))
                if steps > 0:
                    self.assertEqual(run_plain(definitions, core, steps - 1), (("steps",), steps - 1))


class StepsTest(PlainCase):
    def test_no_steps_are_allowed(self):
        for core in [ONE, NO_FUNCTION, glo("a"), fn((), ONE)]:
            self.assertEqual(run_plain([], core, 0), (("steps",), 0))
            self.assertEqual(run_plain([("m", "a", core)], ONE, 0), (("steps",), 0))

    def test_an_error_at_the_last_allowed_step(self):
        for core, word, steps in [
            (glo("a"), "early", 1), (NO_FUNCTION, "kind", 2), (WRONG_COUNT, "count", 3),
            (add(ONE, prim("+")), "kind", 4), (op("*", power(50), power(50)), "size", 10),
        ]:
            self.assertEqual(run_plain([], core, steps), (("error", word), steps))
            self.assertEqual(run_plain([], core, steps - 1), (("steps",), steps - 1))

    def test_the_steps_of_the_definitions_count(self):
        definitions = [("m", "a", add(ONE, TWO)), ("m", "b", ONE)]
        self.assertEqual(run_plain(definitions, glo("a"), 6), (("value", 3), 6))
        self.assertEqual(run_plain(definitions, glo("a"), 5), (("steps",), 5))
        self.assertEqual(run_plain(definitions, glo("a"), 4), (("steps",), 4))

    def test_a_definition_ends_the_program_for_lack_of_steps(self):
        endless = call(fn([0], call(loc(0), loc(0))), fn([0], call(loc(0), loc(0))))
        self.assertEqual(run_plain([("m", "a", endless)], ONE, 1000), (("steps",), 1000))
        self.assertEqual(run_plain([], endless, 1001), (("steps",), 1001))

    def test_the_part_that_is_not_chosen_is_no_step(self):
        long = add(add(ONE, TWO), add(ONE, TWO))
        self.assertEqual(run_plain([], choose(ONE, ONE, long), MANY), (("value", 1), 3))
        self.assertEqual(run_plain([], choose(ZERO, long, ONE), MANY), (("value", 1), 3))
        self.assertEqual(run_plain([], choose(ONE, long, ONE), MANY), (("value", 6), 12))
        self.assertEqual(run_plain([], choose(ZERO, ONE, long), MANY), (("value", 6), 12))


class TreesTest(PlainCase):
    def test_definitions_of_the_same_name_in_two_modules(self):
        definitions = [("m", "a", ONE), ("n", "a", TWO), ("a", "m", THREE)]
        self.assert_outcome(("value", 1), glo("a", "m"), definitions)
        self.assert_outcome(("value", 2), glo("a", "n"), definitions)
        self.assert_outcome(("value", 3), glo("m", "a"), definitions)

    def test_a_definition_is_carried_out_once(self):
        definitions = [("m", "a", add(ONE, TWO))]
        self.assertEqual(run_plain(definitions, add(glo("a"), glo("a")), MANY), (("value", 6), 8))

    def test_early_in_a_function_that_is_called_later(self):
        later = ("m", "f", fn([0], add(loc(0), glo("b"))))
        use = ("m", "a", call(glo("f"), ONE))
        self.assert_error("early", ONE, [later, use, ("m", "b", TWO)])
        self.assert_outcome(("value", 3), glo("a"), [later, ("m", "b", TWO), use])

    def test_names_in_a_part_that_is_not_carried_out_are_never_early(self):
        self.assert_outcome(("value", 1), choose(ONE, ONE, glo("a")))
        self.assert_outcome(("value", 1), choose(ZERO, glo("a"), ONE))
        self.assert_outcome(("value", "fn"), fn((), glo("a")))

    def test_a_function_keeps_the_variables_of_the_place_where_it_stands(self):
        made = ("m", "made", fn([0], fn((), loc(0))))
        self.assert_outcome(("value", ("pair", 1, 2)), let(
            [(0, call(glo("made"), ONE)), (1, call(glo("made"), TWO))], pair(call(loc(0)), call(loc(1)))), [made])

    def test_a_call_does_not_see_the_variables_of_its_caller(self):
        core = let([(0, ONE)], let([(1, fn((), loc(0)))], call(fn([0], call(loc(1))), TWO)))
        self.assert_outcome(("value", 1), core)

    def test_a_call_does_not_change_what_the_function_keeps(self):
        core = let([(0, fn([1], let([(2, loc(1))], loc(2))))], pair(call(loc(0), ONE), call(loc(0), TWO)))
        self.assert_outcome(("value", ("pair", 1, 2)), core)
        self.assert_outcome(("value", 3), let([(0, ONE)], add(call(fn([0], loc(0)), TWO), loc(0))))

    def test_a_test_is_the_integer_0_or_not(self):
        for test in [ONE, num(-1), num(10 ** 39), fn((), ZERO), prim("first"), pair(ZERO, ZERO)]:
            self.assert_outcome(("value", 1), choose(test, ONE, TWO))
        for test in [ZERO, op("-", TWO, TWO), op("<", ONE, ONE)]:
            self.assert_outcome(("value", 2), choose(test, ONE, TWO))

    def test_the_order_of_the_parts(self):
        # Each of these ends the program with another error, and after another number of steps.
        faults = [(glo("a"), "early", 1), (NO_FUNCTION, "kind", 2), (WRONG_COUNT, "count", 3)]
        for fault, word, steps in faults:
            for other, _, _ in faults:
                for core, before in [
                    (call(fault, other), 1), (call(ONE, fault, other), 2), (call(fault, other, other), 1),
                    (call(ONE, TWO, fault, other), 3), (let([(0, fault), (1, other)], other), 1),
                    (let([(0, ONE), (1, fault)], other), 2), (let([(0, ONE)], pair(fault, other)), 4),
                    (choose(fault, other, other), 1), (choose(ONE, fault, other), 2), (choose(ZERO, other, fault), 2),
                ]:
                    self.assertEqual(run_plain([], core, MANY), (("error", word), before + steps), core)


class CallsTest(PlainCase):
    def test_what_is_no_function(self):
        for core in [ZERO, ONE, pair(ONE, ONE), pair(prim("+"), fn((), ONE))]:
            for parts in [(), (ONE,), (ONE, ONE), (ONE, ONE, ONE)]:
                self.assert_error("kind", call(core, *parts))

    def test_another_number_of_values(self):
        for many in range(4):
            for given in range(6):
                core = call(fn(range(many), num(9)), *[ONE] * given)
                self.assert_outcome(("value", 9) if many == given else ("error", "count"), core)

    def test_the_body_is_not_begun_ahead_of_count(self):
        self.assertEqual(run_plain([], call(fn([0], NO_FUNCTION)), MANY), (("error", "count"), 2))

    def test_parameters_get_the_values_in_their_order(self):
        core = call(fn([7, 0, 3], pair(loc(0), pair(loc(3), loc(7)))), ONE, TWO, THREE)
        self.assert_outcome(("value", ("pair", 2, ("pair", 3, 1))), core)


class PrimitivesTest(PlainCase):
    def test_count_of_each_primitive(self):
        for name in ["+", "-", "*", "<", "=", "pair"]:
            for given in [0, 1, 3, 4]:
                self.assert_error("count", op(name, *[ONE] * given))
            self.assertEqual(outcome(op(name, ONE, ONE))[0], "value")
        for name in ["first", "second"]:
            for given in [0, 2, 3]:
                self.assert_error("count", op(name, *[pair(ONE, TWO)] * given))
            self.assertEqual(outcome(op(name, pair(ONE, TWO)))[0], "value")

    def test_count_ahead_of_kind(self):
        for name in ["+", "-", "*", "<", "="]:
            self.assert_error("count", op(name, prim("+")))
            self.assert_error("count", op(name, prim("+"), pair(ONE, ONE), ONE))
        for name in ["first", "second"]:
            self.assert_error("count", op(name, ONE, ONE))

    def test_count_ahead_of_size(self):
        self.assert_error("count", op("*", power(60), power(60), ONE))

    def test_kind_of_each_primitive(self):
        for name in ["+", "-", "*", "<", "="]:
            for wrong in [prim("+"), fn((), ONE), pair(ONE, ONE)]:
                self.assert_error("kind", op(name, wrong, ONE))
                self.assert_error("kind", op(name, ONE, wrong))
                self.assert_error("kind", op(name, wrong, wrong))
        for name in ["first", "second"]:
            for wrong in [ZERO, ONE, prim("first"), fn([0], ONE)]:
                self.assert_error("kind", op(name, wrong))

    def test_kind_ahead_of_size(self):
        self.assert_error("kind", op("+", power(60), prim("+")))
        self.assert_error("kind", op("*", pair(ONE, ONE), power(60)))

    def test_arithmetic(self):
        for left in [-7, -1, 0, 1, 2, 10 ** 20]:
            for right in [-3, 0, 1, 2, 10 ** 20]:
                self.assert_outcome(("value", left + right), op("+", num(left), num(right)))
                self.assert_outcome(("value", left - right), op("-", num(left), num(right)))
                self.assert_outcome(("value", left * right), op("*", num(left), num(right)))
                self.assert_outcome(("value", int(left < right)), op("<", num(left), num(right)))
                self.assert_outcome(("value", int(left == right)), op("=", num(left), num(right)))

    def test_comparing_gives_integers(self):
        for core in [op("<", ONE, TWO), op("=", ONE, ONE), op("<", ONE, ONE), op("=", ONE, TWO)]:
            self.assertIs(type(outcome(core)[1]), int)
        self.assert_outcome(("value", 3), add(op("<", ONE, TWO), TWO))

    def test_the_greatest_results(self):
        least = op("-", ZERO, power(60))
        self.assert_outcome(("value", TEN_60), power(60))
        self.assert_outcome(("value", -TEN_60), least)
        self.assert_outcome(("value", TEN_60), add(op("-", power(60), ONE), ONE))
        self.assert_outcome(("value", -TEN_60), op("-", op("+", least, ONE), ONE))
        self.assert_outcome(("value", TEN_60), op("*", power(60), ONE))
        self.assert_outcome(("value", -TEN_60), op("*", power(60), num(-1)))
        self.assert_outcome(("value", 0), op("+", power(60), least))

    def test_results_that_are_too_great(self):
        least = op("-", ZERO, power(60))
        for core in [
            add(power(60), ONE), add(ONE, power(60)), op("-", power(60), num(-1)), add(least, num(-1)),
            op("-", least, ONE), add(power(60), power(60)), op("-", least, power(60)), op("*", power(60), TWO),
            op("*", least, TWO), op("*", power(60), power(60)), op("*", least, least), power(61),
            op("*", power(60), op("*", num(-1), TWO)),
        ]:
            self.assert_error("size", core)

    def test_great_integers_are_compared_and_paired(self):
        least = op("-", ZERO, power(60))
        self.assert_outcome(("value", 1), op("<", least, power(60)))
        self.assert_outcome(("value", 0), op("<", power(60), least))
        self.assert_outcome(("value", 1), op("=", power(60), power(60)))
        self.assert_outcome(("value", ("pair", TEN_60, -TEN_60)), pair(power(60), least))

    def test_pairs_hold_any_values(self):
        for core, shown in [(ONE, 1), (prim("+"), "fn"), (fn((), ONE), "fn"), (pair(ONE, TWO), ("pair", 1, 2))]:
            self.assert_outcome(("value", ("pair", shown, 0)), pair(core, ZERO))
            self.assert_outcome(("value", ("pair", 0, shown)), pair(ZERO, core))
            self.assert_outcome(("value", shown), op("first", pair(core, ZERO)))
            self.assert_outcome(("value", shown), op("second", pair(ZERO, core)))

    def test_functions_in_pairs_are_called(self):
        held = pair(prim("-"), fn([0], loc(0)))
        self.assert_outcome(("value", 5), call(op("first", held), num(8), THREE))
        self.assert_outcome(("value", 8), call(op("second", held), num(8)))
        self.assert_error("count", call(op("second", held), num(8), THREE))
        self.assert_error("kind", call(held, num(8)))

    def test_each_primitive_as_a_value(self):
        for name in ["+", "-", "*", "<", "=", "pair", "first", "second"]:
            self.assert_outcome(("value", "fn"), prim(name))
            self.assert_outcome(("value", "fn"), glo("p"), [("m", "p", prim(name))])
            parts = [pair(num(6), THREE)] if name in ("first", "second") else [num(6), THREE]
            expected = outcome(op(name, *parts))
            self.assert_outcome(expected, call(glo("p"), *parts), [("m", "p", prim(name))])
            self.assert_outcome(expected, let([(0, prim(name))], call(loc(0), *parts)))


class ShownTest(PlainCase):
    def chain(self, many):
        """What is shown of a chain of pairs that goes on in their second values."""
        return outcome(call(glo("chain"), num(many), ZERO), [CHAIN])[1]

    def test_60_and_61_pairs_in_their_second_values(self):
        for many in [1, 2, 59, 60, 61, 62, 300, 5000]:
            shown = self.chain(many)
            for number in range(1, min(many, 60) + 1):
                self.assertEqual((shown[0], shown[1]), ("pair", number))
                shown = shown[2]
            self.assertEqual(shown, 0 if many <= 60 else "more")

    def test_60_and_61_pairs_in_their_first_values(self):
        for many in [1, 59, 60, 61, 5000]:
            shown = outcome(call(glo("left"), num(many), ZERO), [LEFT])[1]
            for number in range(1, min(many, 60) + 1):
                self.assertEqual((shown[0], shown[2]), ("pair", number))
                shown = shown[1]
            self.assertEqual(shown, 0 if many <= 60 else "more")

    def test_what_lies_in_60_pairs_and_is_no_pair(self):
        definitions = [CHAIN]
        for core, end in [(num(8), 8), (prim("+"), "fn"), (fn((), ONE), "fn"), (pair(ONE, ONE), "more")]:
            shown = outcome(call(glo("chain"), num(60), core), definitions)[1]
            for _ in range(60):
                shown = shown[2]
            self.assertEqual(shown, end)

    def comb(self, heads):
        """A pair of chains of these numbers of pairs: the first one and a pair of the others, and so on."""
        core = ZERO
        for many in reversed(heads):
            core = pair(call(glo("chain"), num(many), ZERO), core)
        return outcome(core, [CHAIN])[1]

    def test_300_and_301_pairs(self):
        # 6 pairs, and 6 chains.
        for heads, many in [([49] * 5 + [48], 299), ([49] * 6, 300)]:
            shown = self.comb(heads)
            self.assertEqual(pairs_shown(shown)[0], many)
            self.assertNotIn("more", str(shown))
        shown = self.comb([49] * 5 + [50])
        self.assertEqual(pairs_shown(shown)[0], 300)
        self.assertEqual(str(shown).count("more"), 1)

    def test_the_first_300_from_left_to_right(self):
        # The pairs around the chains come to stand ahead of the chains behind them.
        shown = self.comb([50] * 5 + [45])
        self.assertEqual(pairs_shown(shown)[0], 300)
        for at in range(5):
            self.assertEqual(pairs_shown(shown[1])[0], 50)
            shown = shown[2]
        # 5 pairs and 5 chains of 50 are 255, then come this pair and 44 pairs of the last chain.
        last, count = shown[1], 0
        while isinstance(last, tuple):
            self.assertEqual(last[:2], ("pair", count + 1))
            last, count = last[2], count + 1
        self.assertEqual((last, count), ("more", 44))
        self.assertEqual(shown[2], 0)

    def test_values_behind_the_300th_pair_that_are_no_pairs_are_shown(self):
        core = pair(call(glo("twice"), num(20), ZERO), pair(ONE, TWO))
        shown = outcome(pair(core, pair(ONE, TWO)), [TWICE])[1]
        self.assertEqual(shown[2], "more")
        self.assertEqual(shown[1][2], "more")
        shown = outcome(pair(call(glo("twice"), num(20), ZERO), num(8)), [TWICE])[1]
        self.assertEqual(shown[2], 8)
        shown = outcome(pair(call(glo("twice"), num(20), ZERO), prim("+")), [TWICE])[1]
        self.assertEqual(shown[2], "fn")

    def test_pairs_that_are_too_deep_do_not_count(self):
        # Each head lies in 60 pairs or fewer; the deep ends are not among the 300.
        deep = call(glo("chain"), num(100), ZERO)
        shown = outcome(pair(deep, pair(deep, pair(deep, pair(deep, pair(deep, deep))))), [CHAIN])[1]
        many, deepest = pairs_shown(shown)
        self.assertEqual((many, deepest), (300, 59))
        # 59 + 58 + 57 + 56 + 55 + 55 are more than 300 with the 5 around them: 10 are left for the last one.
        for at in range(5):
            self.assertEqual(pairs_shown(shown[1])[0], 59 - at)
            shown = shown[2]
        self.assertEqual(pairs_shown(shown)[0], 300 - 5 - 59 - 58 - 57 - 56 - 55)

    def test_the_same_pair_many_times(self):
        # Written out whole this has 2 ** 5000 pairs.
        shown = outcome(call(glo("twice"), num(5000), ZERO), [TWICE])[1]
        self.assertEqual(pairs_shown(shown), (300, 59))
        # The first value is shown ahead of the second one, down to the pairs that lie in 59 pairs.
        part = shown
        for _ in range(60):
            part = part[1]
        self.assertEqual(part, "more")
        self.assertEqual(shown[2], "more")

    def test_the_same_pair_twice_is_shown_twice(self):
        core = let([(0, pair(ONE, fn((), ONE)))], pair(loc(0), loc(0)))
        self.assert_outcome(("value", ("pair", ("pair", 1, "fn"), ("pair", 1, "fn"))), core)
        self.assertEqual(pairs_shown(outcome(call(glo("twice"), num(8), ONE), [TWICE])[1]), (255, 7))
        self.assertEqual(pairs_shown(outcome(call(glo("twice"), num(9), ONE), [TWICE])[1]), (300, 8))

    def test_functions_within_pairs(self):
        core = pair(pair(prim("+"), ONE), pair(fn([0], loc(0)), pair(fn((), ONE), prim("first"))))
        self.assert_outcome(("value", ("pair", ("pair", "fn", 1), ("pair", "fn", ("pair", "fn", "fn")))), core)


class LongProgramsTest(PlainCase):
    def test_hundreds_of_thousands_of_steps(self):
        self.assertEqual(run_plain([LOOP], call(glo("loop"), num(30000)), MANY), (("value", 7), 240007))
        self.assertEqual(run_plain([LOOP], call(glo("loop"), num(30000)), 240006), (("steps",), 240006))
        self.assert_outcome(("value", 0), call(glo("even"), num(20001)), [EVEN, ODD])

    def test_calls_many_thousands_deep(self):
        for many in [3000, 20000]:
            self.assertEqual(run_plain([DEEP], call(glo("deep"), num(many)), MANY), (("value", many), 7 + 11 * many))

    def test_an_error_many_calls_deep(self):
        deep = fn([0], choose(loc(0), add(ONE, call(glo("deep"), op("-", loc(0), ONE))), glo("none")))
        self.assert_error("early", call(glo("deep"), num(20000)), [("m", "deep", deep)])
        self.assertEqual(run_plain([("m", "deep", deep)], call(glo("deep"), num(20000)), 100000), (("steps",), 100000))

    def test_long_chains_of_pairs(self):
        for name, definition in [("chain", CHAIN), ("left", LEFT), ("twice", TWICE)]:
            shown = outcome(call(glo(name), num(100000), ZERO), [definition])
            self.assertEqual(shown[0], "value")
            self.assertEqual(pairs_shown(shown[1])[1], 59)

    def test_a_long_chain_of_pairs_is_gone_through(self):
        total = ("m", "total", fn([0, 1], choose(
            op("=", loc(0), ZERO), loc(1),
            call(glo("total"), op("-", loc(0), ONE), op("second", loc(1))))))
        core = call(glo("total"), num(20000), call(glo("chain"), num(20000), num(42)))
        self.assert_outcome(("value", 42), core, [CHAIN, total])

    def test_a_long_chain_of_functions(self):
        wrap = ("m", "wrap", fn([0, 1], choose(
            loc(0), call(glo("wrap"), op("-", loc(0), ONE), fn((), add(ONE, call(loc(1))))), call(loc(1)))))
        self.assert_outcome(("value", 20000), call(glo("wrap"), num(20000), fn((), ZERO)), [wrap])

    def test_deep_trees(self):
        for depth in [100, 130, 3000]:
            for wrap in [
                lambda part: add(part, ZERO), lambda part: choose(part, ONE, TWO),
                lambda part: let([(0, part)], loc(0)), lambda part: let([(0, ONE)], part),
                lambda part: choose(ONE, part, TWO), lambda part: call(fn((), part)),
            ]:
                core = ONE
                for _ in range(depth - 1):
                    core = wrap(core)
                self.assert_outcome(("value", 1), core)


if __name__ == "__main__":
    unittest.main()
