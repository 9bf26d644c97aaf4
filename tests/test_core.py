"""Points 5.1 to 5.4: core trees."""

import copy
import unittest

from aliasfold import core as core_file
from aliasfold.core import core_to_datum, datum_to_core, well_formed
from aliasfold.errors import InvalidCore

PRIMITIVES = ["+", "-", "*", "<", "=", "pair", "first", "second"]
NO_PRIMITIVES = ["/", ">", "==", "third", "Pair", "fn", "if", "let", "let-macro", "<=", "+-", "pairs", "..."]
MOST = 1000000000
ONE = ("int", 1)

# A tree, and its datum.
PAIRS = [
    (("int", 0), 0),
    (("int", -7), -7),
    (("int", 10 ** 40 - 1), 10 ** 40 - 1),
    (("int", 1 - 10 ** 40), 1 - 10 ** 40),
    (("local", 0), ["local", 0]),
    (("local", MOST), ["local", MOST]),
    (("global", "m", "f"), ["global", "m", "f"]),
    (("global", "...", "let"), ["global", "...", "let"]),
    (("prim", "first"), ["prim", "first"]),
    (("fn", (), ONE), ["fn", [], 1]),
    (("fn", (3, 0, MOST), ("local", 3)), ["fn", [3, 0, MOST], ["local", 3]]),
    (("let", (), ONE), ["let", [], 1]),
    (("let", ((0, ONE), (5, ("prim", "*"))), ("local", 5)), ["let", [[0, 1], [5, ["prim", "*"]]], ["local", 5]]),
    (("if", ("local", 1), ONE, ("int", 2)), ["if", ["local", 1], 1, 2]),
    (("call", ("prim", "+"), ()), ["call", ["prim", "+"]]),
    (("call", ("prim", "+"), (ONE, ("local", 2))), ["call", ["prim", "+"], 1, ["local", 2]]),
    (
        ("fn", (0,), ("let", ((1, ("call", ("prim", "*"), (("local", 0), ("int", 3)))),), ("local", 1))),
        ["fn", [0], ["let", [[1, ["call", ["prim", "*"], ["local", 0], 3]]], ["local", 1]]],
    ),
]

# The ways to put a tree into another one, of which it is a part.
WRAPPERS = {
    "fn body": lambda part: ("fn", (), part),
    "let part": lambda part: ("let", ((0, ONE), (1, part)), ONE),
    "let body": lambda part: ("let", ((0, ONE),), part),
    "test": lambda part: ("if", part, ONE, ONE),
    "yes": lambda part: ("if", ONE, part, ONE),
    "no": lambda part: ("if", ONE, ONE, part),
    "function": lambda part: ("call", part, (ONE,)),
    "first part": lambda part: ("call", ONE, (part, ONE)),
    "last part": lambda part: ("call", ONE, (ONE, part)),
}


def deep(wrap, depth, inmost=ONE):
    """A tree whose deepest part is so deep."""
    tree = inmost
    for _ in range(depth - 1):
        tree = wrap(tree)
    return tree


def lists_of(datum):
    """All lists of a datum, the datum included."""
    if not isinstance(datum, list):
        return []
    return [datum] + [inner for part in datum for inner in lists_of(part)]


class InterfaceTest(unittest.TestCase):
    def test_functions_are_defined_in_the_file(self):
        for name in ["well_formed", "core_to_datum", "datum_to_core"]:
            self.assertEqual(getattr(core_file, name).__module__, "aliasfold.core")

    def test_arguments_have_the_names_of_the_interface(self):
        self.assertIs(well_formed(core=("int", 1), known=[]), True)
        self.assertEqual(core_to_datum(core=("int", 1)), 1)
        self.assertEqual(datum_to_core(datum=1), ("int", 1))


class WellFormedTest(unittest.TestCase):
    def assert_good(self, core, known=()):
        self.assertIs(well_formed(core, known), True, core)

    def assert_bad(self, core, known=()):
        self.assertIs(well_formed(core, known), False, core)

    def assert_bad_everywhere(self, core, known=()):
        """The tree is not well formed, neither alone nor as a part of another one."""
        self.assert_bad(core, known)
        for wrap in WRAPPERS.values():
            self.assert_bad(wrap(core), known)

    def test_each_kind_of_tree(self):
        for core in [
            ONE, ("global", "m", "f"), ("prim", "pair"), ("fn", (), ONE), ("let", (), ONE), ("if", ONE, ONE, ONE),
            ("call", ONE, ()), ("call", ("prim", "+"), (ONE, ("int", -2))), ("fn", (0, 1), ("local", 1)),
            ("let", ((4, ONE), (2, ONE)), ("call", ("local", 2), (("local", 4),))),
        ]:
            self.assert_good(core)
            for wrap in WRAPPERS.values():
                self.assert_good(wrap(core))

    def test_the_result_is_a_bool(self):
        self.assertIs(well_formed(("fn", (0,), ("local", 0)), []), True)
        self.assertIs(well_formed(("local", 0), []), False)

    def test_integers_of_40_and_41_digits(self):
        for number in [0, -1, 10 ** 39, 10 ** 40 - 1, 1 - 10 ** 40]:
            self.assert_good(("int", number))
        for number in [10 ** 40, -10 ** 40, 10 ** 41, -10 ** 41]:
            self.assert_bad_everywhere(("int", number))

    def test_each_primitive(self):
        for name in PRIMITIVES:
            self.assert_good(("prim", name))

    def test_words_that_are_no_primitive(self):
        for name in NO_PRIMITIVES:
            self.assert_bad_everywhere(("prim", name))

    def test_any_symbols_name_a_definition(self):
        for name in ["a", "+", "fn", "...", "let-macro", "Z9?!"]:
            self.assert_good(("global", name, "x"))
            self.assert_good(("global", "x", name))

    def test_what_is_no_symbol_names_no_definition(self):
        for name in ["", "7", "-7", "a b", "(", "_"]:
            self.assert_bad_everywhere(("global", name, "x"))
            self.assert_bad_everywhere(("global", "x", name))

    def test_numbers_of_locals(self):
        for number in [0, 1, 999999999, MOST]:
            self.assert_good(("local", number), [number])
            self.assert_good(("fn", (number,), ("local", number)))
            self.assert_good(("let", ((number, ONE),), ("local", number)))
        for number in [-1, MOST + 1, MOST * 10]:
            self.assert_bad_everywhere(("local", number), [number])
            self.assert_bad(("fn", (number,), ONE))
            self.assert_bad(("fn", (0, number), ("local", number)))
            self.assert_bad(("let", ((number, ONE),), ("local", number)))
            self.assert_bad(("let", ((0, ONE), (number, ONE)), ONE))

    def test_a_local_is_known_or_bound(self):
        self.assert_bad_everywhere(("local", 7))
        self.assert_bad_everywhere(("local", 7), [0, 1, 6, 8, 70])
        for known in [[7], (7,), [1, 7, 2], (8, 7)]:
            self.assert_good(("local", 7), known)
            for wrap in WRAPPERS.values():
                self.assert_good(wrap(("local", 7)), known)

    def test_known_stays_known_inside(self):
        self.assert_good(("fn", (1,), ("let", ((2, ("local", 0)),), ("call", ("local", 0), (("local", 1),)))), [0])

    def test_a_number_twice_in_one_form(self):
        self.assert_bad_everywhere(("fn", (3, 3), ONE))
        self.assert_bad_everywhere(("fn", (3, 4, 3), ("local", 4)))
        self.assert_bad_everywhere(("let", ((3, ONE), (3, ONE)), ONE))
        self.assert_bad_everywhere(("let", ((3, ONE), (4, ONE), (3, ONE)), ("local", 3)))

    def test_the_parameters_hold_in_the_body(self):
        self.assert_good(("fn", (0, 5), ("call", ("local", 5), (("local", 0),))))
        self.assert_good(("fn", (0,), ("fn", (1,), ("call", ("local", 0), (("local", 1),)))))

    def test_the_parameters_do_not_hold_outside(self):
        self.assert_bad(("call", ("fn", (0,), ("local", 0)), (("local", 0),)))
        self.assert_bad(("if", ("fn", (0,), ONE), ("local", 0), ONE))
        self.assert_bad(("if", ("local", 0), ("fn", (0,), ONE), ONE))

    def test_a_let_holds_in_its_body_and_not_in_its_parts(self):
        self.assert_good(("let", ((0, ONE), (1, ONE)), ("call", ("local", 0), (("local", 1),))))
        self.assert_bad(("let", ((0, ("local", 0)),), ONE))
        self.assert_bad(("let", ((0, ONE), (1, ("local", 0))), ONE))
        self.assert_bad(("let", ((0, ("local", 1)), (1, ONE)), ONE))
        self.assert_bad(("call", ("let", ((0, ONE),), ONE), (("local", 0),)))
        self.assert_bad(("call", ("local", 0), (("let", ((0, ONE),), ONE),)))

    def test_an_inner_variable_hides_an_outer_one(self):
        self.assert_good(("fn", (0,), ("fn", (0,), ("local", 0))))
        self.assert_good(("fn", (0,), ("let", ((0, ("local", 0)),), ("local", 0))))
        self.assert_good(("let", ((0, ONE),), ("let", ((0, ("local", 0)),), ("fn", (0,), ("local", 0)))))
        self.assert_good(("call", ("fn", (0,), ("local", 0)), (("local", 0),)), [0])
        self.assert_good(("fn", (0,), ("call", ("fn", (0,), ONE), (("local", 0),))))

    def test_100_and_101_deep(self):
        for name, wrap in WRAPPERS.items():
            with self.subTest(name=name):
                self.assert_good(deep(wrap, 100))
                self.assert_bad(deep(wrap, 101))
                self.assert_bad(deep(wrap, 102))
                self.assert_bad(deep(wrap, 300))

    def test_a_fault_at_the_greatest_depth(self):
        for wrap in WRAPPERS.values():
            self.assert_bad(deep(wrap, 100, ("local", 9)))
            self.assert_good(deep(wrap, 100, ("local", 9)), [9])

    def test_the_arguments_stay(self):
        known = [3, 1]
        well_formed(("fn", (0,), ("let", ((2, ("local", 3)),), ("local", 1))), known)
        self.assertEqual(known, [3, 1])


class DatumTest(unittest.TestCase):
    def test_the_datum_of_each_kind_of_tree_and_back(self):
        for core, datum in PAIRS:
            self.assertEqual(core_to_datum(core), datum)
            self.assertEqual(datum_to_core(datum), core)

    def test_parts_of_each_kind(self):
        for core, datum in PAIRS:
            for wrap in WRAPPERS.values():
                whole = wrap(core)
                self.assertEqual(datum_to_core(core_to_datum(whole)), whole)
        self.assertEqual(core_to_datum(("if", ("prim", "<"), ("local", 3), ONE)), ["if", ["prim", "<"], ["local", 3], 1])

    def test_each_primitive(self):
        for name in PRIMITIVES:
            self.assertEqual(core_to_datum(("prim", name)), ["prim", name])
            self.assertEqual(datum_to_core(["prim", name]), ("prim", name))

    def test_trees_that_are_too_deep_have_data_all_the_same(self):
        for wrap in WRAPPERS.values():
            self.assertEqual(core_to_datum(wrap(deep(wrap, 100))), core_to_datum(deep(wrap, 101)))
        self.assertEqual(len(lists_of(core_to_datum(deep(WRAPPERS["yes"], 120)))), 119)

    def test_what_is_returned_is_new(self):
        for core, datum in PAIRS:
            first = core_to_datum(core)
            for inner in lists_of(first):
                inner.append("x")
            self.assertEqual(core_to_datum(core), datum)

    def test_a_tree_that_stands_twice_gives_two_lists(self):
        part = ("fn", (0,), ("call", ("local", 0), ()))
        datum = core_to_datum(("if", part, part, part))
        found = lists_of(datum)
        self.assertEqual(len(found), len({id(inner) for inner in found}))

    def test_the_argument_stays(self):
        for core, datum in PAIRS:
            before = copy.deepcopy(datum)
            datum_to_core(datum)
            self.assertEqual(datum, before)
            datum_to_core(datum)
            self.assertEqual(datum, before)

    def test_the_tree_does_not_change_with_the_datum(self):
        datum = ["let", [[0, 1]], ["fn", [1], ["call", 1, 2]]]
        core = datum_to_core(datum)
        for inner in lists_of(datum):
            inner.append("x")
        self.assertEqual(core, ("let", ((0, ONE),), ("fn", (1,), ("call", ONE, (("int", 2),)))))


class InvalidCoreTest(unittest.TestCase):
    def assert_invalid(self, datum):
        """The datum is not that of a tree, neither alone nor as a part of another one."""
        places = [
            datum, ["fn", [0], datum], ["let", [[0, datum]], 1], ["let", [[0, 1], [1, datum]], 1], ["let", [], datum],
            ["if", datum, 1, 1], ["if", 1, datum, 1], ["if", 1, 1, datum], ["call", datum], ["call", 1, datum, 1],
        ]
        for place in places:
            with self.assertRaises(InvalidCore, msg=repr(place)) as caught:
                datum_to_core(place)
            self.assertIs(type(caught.exception), InvalidCore)

    def test_what_has_no_shape_of_a_tree(self):
        for datum in ["a", "local", "+", [], [[]], [1], ["a"], ["a", 1], [["prim", "+"], 1, 2], [1, 2], ["int", 1]]:
            self.assert_invalid(datum)

    def test_words_of_another_case_or_form(self):
        for datum in [["Local", 0], ["code", 0], ["let-macro", [], 1], ["value", 1], [["local"], 0]]:
            self.assert_invalid(datum)

    def test_integers(self):
        for number in [10 ** 40, -10 ** 40, 10 ** 50, -10 ** 50]:
            self.assert_invalid(number)
        self.assertEqual(datum_to_core(1 - 10 ** 40), ("int", 1 - 10 ** 40))

    def test_local(self):
        for datum in [["local"], ["local", 0, 0], ["local", "a"], ["local", [0]], ["local", []]]:
            self.assert_invalid(datum)
        for number in [-1, MOST + 1, 10 ** 40]:
            self.assert_invalid(["local", number])

    def test_global(self):
        for datum in [["global"], ["global", "m"], ["global", "m", "f", "g"], ["global", 1, "f"], ["global", "m", 1],
                      ["global", ["m"], "f"], ["global", "m", ["f"]], ["global", "m", []]]:
            self.assert_invalid(datum)

    def test_prim(self):
        for datum in [["prim"], ["prim", "+", "-"], ["prim", 1], ["prim", ["+"]], ["prim", []]]:
            self.assert_invalid(datum)
        for name in NO_PRIMITIVES:
            self.assert_invalid(["prim", name])

    def test_fn(self):
        for datum in [["fn"], ["fn", [0]], ["fn", [0], 1, 1], ["fn", 0, 1], ["fn", "a", 1], ["fn", ["a"], 1],
                      ["fn", [[0]], 1], ["fn", [0, 0], 1], ["fn", [0, 1, 0], 1]]:
            self.assert_invalid(datum)
        for number in [-1, MOST + 1]:
            self.assert_invalid(["fn", [number], 1])
            self.assert_invalid(["fn", [0, number], 1])
        self.assertEqual(datum_to_core(["fn", [MOST, 0], 1]), ("fn", (MOST, 0), ONE))

    def test_let(self):
        for datum in [["let"], ["let", []], ["let", [], 1, 1], ["let", 0, 1], ["let", "ab", 1], ["let", [0], 1],
                      ["let", ["ab"], 1], ["let", [[]], 1], ["let", [[0]], 1], ["let", [[0, 1, 1]], 1],
                      ["let", [["a", 1]], 1], ["let", [[[0], 1]], 1], ["let", [0, 1], 1],
                      ["let", [[0, 1], [0, 1]], 1], ["let", [[0, 1], [1, 1], [0, 1]], 1]]:
            self.assert_invalid(datum)
        for number in [-1, MOST + 1]:
            self.assert_invalid(["let", [[number, 1]], 1])
            self.assert_invalid(["let", [[0, 1], [number, 1]], 1])
        self.assertEqual(datum_to_core(["let", [[MOST, 1]], 1]), ("let", ((MOST, ONE),), ONE))

    def test_if_and_call(self):
        for datum in [["if"], ["if", 1], ["if", 1, 1], ["if", 1, 1, 1, 1], ["call"]]:
            self.assert_invalid(datum)

    def test_locals_need_not_be_known_or_bound(self):
        self.assertEqual(datum_to_core(["local", 5]), ("local", 5))
        self.assertEqual(datum_to_core(["let", [[0, ["local", 0]]], 1]), ("let", ((0, ("local", 0)),), ONE))
        self.assertEqual(datum_to_core(["fn", [0], ["local", 1]]), ("fn", (0,), ("local", 1)))

    def test_one_number_in_several_forms(self):
        core = ("let", ((0, ONE),), ("fn", (0,), ("fn", (0,), ("local", 0))))
        self.assertEqual(datum_to_core(core_to_datum(core)), core)

    def test_100_and_101_deep(self):
        for name, wrap in WRAPPERS.items():
            with self.subTest(name=name):
                core = deep(wrap, 100)
                self.assertEqual(datum_to_core(core_to_datum(core)), core)
                for depth in [101, 102, 200]:
                    with self.assertRaises(InvalidCore):
                        datum_to_core(core_to_datum(deep(wrap, depth)))

    def test_a_fault_at_the_greatest_depth(self):
        for wrap in WRAPPERS.values():
            with self.assertRaises(InvalidCore):
                datum_to_core(core_to_datum(deep(wrap, 100, ("local", -1))))

    def test_far_too_deep(self):
        datum = 1
        for _ in range(5000):
            datum = ["fn", [], datum]
        with self.assertRaises(InvalidCore):
            datum_to_core(datum)


if __name__ == "__main__":
    unittest.main()
