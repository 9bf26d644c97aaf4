"""Points 8.1 to 8.3: units and their texts."""

import copy
import random
import unittest

from aliasfold import units
from aliasfold.errors import FoldError, InvalidUnit
from aliasfold.units import Unit, read_unit, write_unit
from tests.programs import ONE, call, fn, glo, let, loc, num, op, random_program
from tests.support import FoldCase, fields_of, unit_of

EMPTY = "(unit m () () () ())\n"


def small_unit():
    """A unit with every part."""
    scope = {"f": ("global", "m", "f"), "if": ("special", "if"), "+": ("prim", "+"), "k": ("macro", "m", "k")}
    return Unit(
        "m", ["o", "b"], {"f": ("global", "m", "f"), "j": ("macro", "o", "k")},
        {"k": (["else"], [(["a", "else"], ["+", "a", 1]), ([], 7)], scope)},
        [("g", fn([0], loc(0))), ("f", op("+", ONE, num(-2)))],
    )


SMALL = (
    "(unit m (o b) ((f global m f) (j macro o k))"
    " ((k (else) (((a else) (+ a 1)) (() 7)) ((+ prim +) (f global m f) (if special if) (k macro m k))))"
    " ((g (fn (0) (local 0))) (f (call (prim +) 1 -2))))\n"
)

UNITS = [
    (Unit("m", [], {}, {}, []), EMPTY),
    (Unit("...", ["..."], {}, {}, []), "(unit ... (...) () () ())\n"),
    (Unit("m", ["b", "a"], {}, {}, []), "(unit m (b a) () () ())\n"),
    (Unit("m", [], {"x": ("prim", "first")}, {}, []), "(unit m () ((x prim first)) () ())\n"),
    (Unit("m", [], {"b": ("prim", "x"), "a": ("special", "y"), "B": ("macro", "u", "v"), "1+": ("global", "w", "z")},
          {}, []),
     "(unit m () ((1+ global w z) (B macro u v) (a special y) (b prim x)) () ())\n"),
    (Unit("m", [], {"...": ("special", "...")}, {"...": (["..."], [("...", "...")], {})}, [("...", ONE)]),
     "(unit m () ((... special ...)) ((... (...) ((... ...)) ())) ((... 1)))\n"),
    (Unit("m", [], {}, {"k": ([], [], {})}, []), "(unit m () () ((k () () ())) ())\n"),
    (Unit("m", [], {}, {"k": (["b", "a", "b"], [(5, []), ([["x"]], -3)], {}), "a": ([], [], {"x": ("prim", "+")})}, []),
     "(unit m () () ((a () () ((x prim +))) (k (b a b) ((5 ()) (((x)) -3)) ())) ())\n"),
    (Unit("m", [], {}, {}, [("b", ONE), ("a", let([(3, ONE)], call(loc(3), glo("b"))))]),
     "(unit m () () () ((b 1) (a (let ((3 1)) (call (local 3) (global m b))))))\n"),
    (Unit("unit", ["macro"], {}, {}, [("unit", ("if", ONE, ONE, ONE))]),
     "(unit unit (macro) () () ((unit (if 1 1 1))))\n"),
    (small_unit(), SMALL),
]


class InterfaceTest(unittest.TestCase):
    def test_everything_is_defined_in_the_file(self):
        for thing in [Unit, write_unit, read_unit]:
            self.assertEqual(thing.__module__, "aliasfold.units")
            self.assertIs(getattr(units, thing.__name__), thing)

    def test_arguments_have_the_names_of_the_interface(self):
        unit = Unit(name="m", imports=["a"], exports={}, macros={}, definitions=[])
        self.assertEqual(fields_of(unit), ("m", ["a"], {}, {}, []))
        self.assertEqual(write_unit(unit=unit), "(unit m (a) () () ())\n")
        self.assertEqual(read_unit(text=EMPTY).name, "m")

    def test_the_fields_have_the_kinds_of_the_interface(self):
        unit = read_unit(SMALL)
        literals, rules, scope = unit.macros["k"]
        kinds = [(unit.name, str), (unit.imports, list), (unit.exports, dict), (unit.macros, dict),
                 (unit.definitions, list), (unit.exports["f"], tuple), (unit.macros["k"], tuple), (literals, list),
                 (rules, list), (rules[0], tuple), (rules[0][0], list), (scope, dict), (scope["if"], tuple),
                 (unit.definitions[0], tuple)]
        for part, kind in kinds:
            self.assertIs(type(part), kind)


class WriteTest(FoldCase):
    def test_each_unit(self):
        for unit, text in UNITS:
            self.assertEqual(write_unit(unit), text)

    def test_dicts_in_any_order(self):
        chance = random.Random(5)
        for unit, text in UNITS:
            for _ in range(5):
                def mixed(table):
                    names = list(table)
                    chance.shuffle(names)
                    return {name: table[name] for name in names}
                macros = {}
                for name, (literals, rules, scope) in mixed(unit.macros).items():
                    macros[name] = (literals, rules, mixed(scope))
                other = Unit(unit.name, unit.imports, mixed(unit.exports), macros, unit.definitions)
                self.assertEqual(write_unit(other), text)

    def test_ascending_order_is_that_of_strings(self):
        names = ["b", "a", "B", "A", "aa", "a1", "-", "1a", "a-", "!", "+", "...", "z", "Z", "?"]
        scope = {name: ("prim", name) for name in names}
        text = write_unit(Unit("m", [], scope, {}, []))
        written = [part.split()[0] for part in text.removeprefix("(unit m () ((").split(") () ())")[0].split(") (")]
        self.assertEqual(written, sorted(names))

    def test_the_order_of_imports_literals_rules_and_definitions_stays(self):
        text = write_unit(Unit("m", ["z", "a"], {}, {"k": (["z", "a"], [(["z"], 2), (["a"], 1)], {})},
                               [("z", ONE), ("a", ONE)]))
        self.assertEqual(text, "(unit m (z a) () ((k (z a) (((z) 2) ((a) 1)) ())) ((z 1) (a 1)))\n")

    def test_the_unit_stays(self):
        for unit, _ in UNITS:
            before = copy.deepcopy(fields_of(unit))
            write_unit(unit)
            self.assertEqual(fields_of(unit), before)

    def test_compiled_units(self):
        unit = unit_of("(module m) (define f (fn (x) (k x))) (macro k () ((a) (+ a 1))) (export k)")
        self.assertEqual(
            write_unit(unit),
            "(unit m () ((k macro m k)) ((k () (((a) (+ a 1))) ((* prim *) (+ prim +) (- prim -) (< prim <) (= prim =)"
            " (f global m f) (first prim first) (fn special fn) (if special if) (k macro m k) (let special let)"
            " (let-macro special let-macro) (pair prim pair) (second prim second))))"
            " ((f (fn (0) (call (prim +) (local 0) 1)))))\n")


class ReadTest(FoldCase):
    def assert_read(self, unit, text):
        self.assertEqual(fields_of(read_unit(text)), fields_of(unit), text)

    def test_each_unit(self):
        for unit, text in UNITS:
            self.assert_read(unit, text)

    def test_what_is_read_is_written_alike(self):
        for _, text in UNITS:
            self.assertEqual(write_unit(read_unit(text)), text)

    def test_random_definitions(self):
        for seed in range(100):
            definitions, core = random_program(seed)
            unit = Unit("m", [], {}, {},
                        [(f"d{at}", core) for at, (_, _, core) in enumerate(definitions)] + [("it", core)])
            self.assert_read(unit, write_unit(unit))

    def test_patterns_and_templates_of_any_depth(self):
        for depth in [57, 60, 61, 100, 5000]:
            datum = text = "x"
            for _ in range(depth):
                datum, text = [datum], f"({text})" if depth <= 100 else text
            unit = Unit("m", [], {}, {"k": ([], [([], datum), (datum, [])], {})}, [])
            written = write_unit(unit)
            if depth <= 100:
                self.assertEqual(written, f"(unit m () () ((k () ((() {text}) ({text} ())) ())) ())\n")
                self.assert_read(unit, written)
            self.assertEqual(write_unit(read_unit(written)), written)

    def test_trees_of_the_greatest_depth(self):
        core = ONE
        for _ in range(99):
            core = ("call", core, ())
        unit = Unit("m", [], {}, {}, [("a", core)])
        self.assert_read(unit, write_unit(unit))
        deeper = f"(unit m () () () ((a {'(call ' * 100}1{')' * 100})))\n"
        self.assert_error(InvalidUnit, read_unit, deeper)
        self.assert_error(InvalidUnit, read_unit, deeper.replace("1", "(call " * 400 + "1" + ")" * 400))

    def test_large_integers(self):
        for digits in ["9" * 40, "-" + "9" * 40]:
            text = f"(unit m () () ((k () ((() {digits})) ())) ((a {digits})))\n"
            self.assertEqual(write_unit(read_unit(text)), text)

    def test_a_long_text(self):
        unit = Unit("m", [f"i{k}" for k in range(3000)], {f"x{k}": ("prim", "+") for k in range(3000)},
                    {f"k{k}": ([], [([], k)], {"a": ("prim", "+")}) for k in range(3000)},
                    [(f"d{k}", num(k)) for k in range(3000)])
        self.assert_read(unit, write_unit(unit))


class InvalidTest(FoldCase):
    def assert_invalid(self, text):
        self.assert_error(InvalidUnit, read_unit, text)

    def test_other_spaces(self):
        for text in [" " + SMALL, SMALL + " ", SMALL[:-1], SMALL + "\n", SMALL[:-1] + " \n", "\n" + SMALL,
                     SMALL[:-1] + "\n ", SMALL.replace("m (o", "m  (o"), SMALL.replace("(o b)", "( o b)"),
                     SMALL.replace("(o b)", "(o b )"), SMALL.replace("(o b)", "(o\nb)"), SMALL.replace(") (f", ")(f"),
                     SMALL.replace("m (o", "m(o"), SMALL.replace("()", "( )"), SMALL.replace("m (o", "m\t(o"),
                     SMALL + "; x\n", "; x\n" + SMALL, SMALL.replace(" (o", "; x\n (o")]:
            self.assertNotEqual(text, SMALL)
            self.assert_invalid(text)

    def test_each_place_with_one_more_or_less_sign(self):
        for at in range(len(SMALL)):
            for sign in ["\n", "(", ")", ";", "%", "\t"]:
                self.assert_invalid(SMALL[:at] + sign + SMALL[at:])
            if SMALL[at] in "\n()":
                self.assert_invalid(SMALL[:at] + SMALL[at + 1:])
            if SMALL[at] in " \n()":
                self.assert_invalid(SMALL[:at] + " " + SMALL[at:])

    def test_texts_that_are_no_data(self):
        for text in ["", "\n", "(", ")", "(unit m () () () ()\n", "(unit m () () () ()))\n", "%\n", "07\n",
                     "(unit m () () () (%))\n", "(unit 07 () () () ())\n", "(unit m () () () ((a +1)))\n",
                     "(unit m () () () ((a -0)))\n", f"(unit m () () ((k () ((() {'1' * 41})) ())) ())\n",
                     "(" * 100000, "(" * 100000 + ")" * 100000 + "\n"]:
            self.assert_invalid(text)

    def test_less_and_more_than_one_datum(self):
        for text in ["\n", EMPTY + EMPTY, EMPTY[:-1] + " " + EMPTY, "5 " + EMPTY, "m\n", "5\n", "()\n", "unit\n",
                     "(unit)\n", EMPTY[:-1] + " x\n"]:
            self.assert_invalid(text)

    def test_more_or_fewer_parts(self):
        for text in ["(unit m () () ())\n", "(unit m () () () () ())\n", "(unit m)\n", "(unit m () () () () x)\n",
                     "(unit m () ())\n"]:
            self.assert_invalid(text)

    def test_another_first_word(self):
        for word in ["Unit", "units", "module", "5", "()", "(unit)", "m"]:
            self.assert_invalid(EMPTY.replace("unit", word))

    def test_parts_of_another_kind(self):
        for parts in ["5 () () () ()", "(m) () () () ()", "() () () () ()", "m 5 () () ()", "m x () () ()",
                      "m (5) () () ()", "m ((x)) () () ()", "m (x 5) () () ()", "m () 5 () ()", "m () x () ()",
                      "m () () 5 ()", "m () () x ()", "m () () () 5", "m () () () x"]:
            self.assert_invalid(f"(unit {parts})\n")

    def test_scopes(self):
        for scope in ["(5)", "(x)", "(())", "((x))", "((x special))", "((x special if if))", "((x prim))",
                      "((x prim + +))", "((x global m))", "((x global m f f))", "((x global))", "((x macro m))",
                      "((x macro m k k))", "((x local 0))", "((x local a))", "((x other a))", "((x other a b))",
                      "((x Special if))", "((x 5))", "((x 5 6))", "((x prim 5))", "((5 prim +))", "((x global m 5))",
                      "((x global 5 f))", "((x macro m (k)))", "(((x) prim +))", "((x (prim +)))", "((x prim (+)))",
                      "((x (prim) +))", "((x prim +) (x prim +))", "((x prim +) (x prim -))",
                      "((b prim +) (a prim +))", "((a prim +) (B prim +))", "((a prim +) (c prim +) (b prim +))",
                      "((x prim +) ())", "(() (x prim +))", "((x prim +) 5)", "((x special) (y prim +))", "((prim +))",
                      "((x if))"]:
            self.assert_invalid(f"(unit m () {scope} () ())\n")
            self.assert_invalid(f"(unit m () () ((k () () {scope})) ())\n")

    def test_denotations_of_any_words(self):
        for words in ["special if", "special x", "special ...", "prim +", "prim x", "prim special", "global a b",
                      "global x x", "global macro global", "macro a b", "macro m m"]:
            text = f"(unit m () ((x {words})) ((k () () ((x {words})))) ())\n"
            unit = read_unit(text)
            self.assertEqual(unit.exports, {"x": tuple(words.split())})
            self.assertEqual(unit.macros["k"][2], {"x": tuple(words.split())})

    def test_macros(self):
        for macros in ["(5)", "(x)", "(())", "((k))", "((k ()))", "((k () ()))", "((k () () () ()))", "((5 () () ()))",
                       "(((k) () () ()))", "((k 5 () ()))", "((k x () ()))", "((k (5) () ()))", "((k ((a)) () ()))",
                       "((k () 5 ()))", "((k () x ()))", "((k () (5) ()))", "((k () (x) ()))", "((k () (()) ()))",
                       "((k () ((1)) ()))", "((k () ((1 2 3)) ()))", "((k () (((1 2))) ()))", "((k () () 5))",
                       "((k () () ()) (k () () ()))", "((k () () ()) (j () () ()))", "((k () () ()) 5)",
                       "((a () () ()) (c () () ()) (b () () ()))", "((a () () ()) (B () () ()))"]:
            self.assert_invalid(f"(unit m () () {macros} ())\n")

    def test_definitions(self):
        for definitions in ["(5)", "(x)", "(())", "((a))", "((a 1 2))", "((5 1))", "(((a) 1))", "((a 1) (a 1))",
                            "((a 1) (b 1) (a 2))", "((a x))", "((a ()))", "((a (prim x)))", "((a (prim 5)))",
                            "((a (local 0)))", "((a (local)))", "((a (fn (0 0) 1)))", "((a (fn (0) (local 1))))",
                            "((a (let ((0 (local 0))) 1)))", "((a (global m)))", "((a (global m 5)))",
                            "((a (if 1 2)))", "((a (call)))", "((a (int 1)))", "((a (fn (-1) 1)))",
                            "((a (fn (1000000001) 1)))", "((a 1) b)", "((a (call (local 0))))"]:
            self.assert_invalid(f"(unit m () () () {definitions})\n")

    def test_a_module_twice(self):
        self.assert_invalid("(unit m (a a) () () ())\n")
        self.assert_invalid("(unit m (a b a) () () ())\n")
        self.assertEqual(read_unit("(unit m (m) () () ())\n").imports, ["m"])

    def test_definitions_in_any_order(self):
        self.assertEqual(read_unit("(unit m () () () ((b 1) (a 1)))\n").definitions, [("b", ONE), ("a", ONE)])

    def test_only_the_error_of_units_is_raised(self):
        chance = random.Random(7)
        signs = sorted(set(SMALL)) + ["0", ";", "%"]
        for _ in range(2000):
            at = chance.randrange(len(SMALL))
            text = SMALL[:at] + chance.choice(signs) + SMALL[at + chance.randrange(2):]
            try:
                unit = read_unit(text)
            except FoldError as error:
                self.assertIs(type(error), InvalidUnit)
            else:
                self.assertEqual(write_unit(unit), text)

    def test_lists_of_the_text_moved_about(self):
        chance = random.Random(8)
        words = SMALL[:-1].replace("(", "( ").replace(")", " )").split()
        for _ in range(2000):
            mixed = list(words)
            first, second = chance.randrange(len(words)), chance.randrange(len(words))
            mixed[first], mixed[second] = mixed[second], mixed[first]
            text = " ".join(mixed).replace("( ", "(").replace(" )", ")") + "\n"
            try:
                unit = read_unit(text)
            except FoldError as error:
                self.assertIs(type(error), InvalidUnit)
            else:
                self.assertEqual(write_unit(unit), text)


class NewTest(unittest.TestCase):
    def test_what_is_read_is_new(self):
        first, second = read_unit(SMALL), read_unit(SMALL)
        first.imports.append("x")
        first.exports["x"] = ("prim", "+")
        first.macros["k"][0].append("x")
        first.macros["k"][1][0][0].append("x")
        first.macros["k"][2]["x"] = ("prim", "+")
        first.definitions.append(("x", ONE))
        self.assertEqual(fields_of(second), fields_of(small_unit()))
        self.assertEqual(fields_of(read_unit(SMALL)), fields_of(small_unit()))
