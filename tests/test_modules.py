"""Points 8.6 to 8.8 and 8.10: modules."""

import copy

from aliasfold import modules
from aliasfold.errors import (
    DuplicateName, InvalidForm, InvalidRule, InvalidWord, MisusedName, NoMatchingRule, TooDeep, UnexpectedClose,
    UnexpectedEnd, UnknownModule, UnknownName,
)
from aliasfold.modules import compile_module, imported_modules, module_name
from aliasfold.reader import parse_all
from aliasfold.units import read_unit, write_unit
from tests.programs import ONE, TWO, call, fn, glo, let, loc, num, op
from tests.support import FoldCase, fields_of, unit_of

NO_FIRST_FORMS = ["", "5", "m", "()", "(module)", "(module 5)", "(module ...)", "(module (m))", "(module ())",
                  "(module m n)", "(module m 5)", "(define x 1)", "(import m)", "(Module m)", "((module) m)",
                  "(m module)", "module m", "(define x 1) (module m)", "; (module m)", "(export m)", "(5 m)"]

MALFORMED = [
    "5", "x", "...", "()", "(5)", "((define x 1))", "(())", "(x)", "(x y z)", "(...)", "(Define x 1)", "(fn (x) x)",
    "(let-macro () 1)", "(module n)", "(module m)", "(module)", "(import)", "(import 5)", "(import ...)",
    "(import (o))", "(import ())", "(import o 5)", "(import o ...)", "(import o ())", "(import o (x))",
    "(import o (x y z))", "(import o (5 x))", "(import o (x 5))", "(import o (... x))", "(import o (x ...))",
    "(import o ((x) y))", "(import o (x (y)))", "(import o x 5)", "(import o x (y))", "(import (o x))", "(export)",
    "(export 5)", "(export ...)", "(export (x))", "(export ())", "(export x 5)", "(export x ...)", "(export x (x y))",
    "(define)", "(define x)", "(define x 1 2)", "(define 5 1)", "(define ... 1)", "(define (x) 1)", "(define () 1)",
    "(define (f x) x)",
]

FORMS = ["(import a x)", "(import b)", "(export x)", "(define f (fn (x) x))", "(macro k () (() 1))"]


def library(*texts):
    """The units of some modules, each compiled with those before it."""
    units = {}
    for text in texts:
        unit = compile_module(text, units)
        units[unit.name] = unit
    return units


class InterfaceTest(FoldCase):
    def test_functions_are_defined_in_the_file(self):
        for name in ["compile_module", "imported_modules", "module_name"]:
            self.assertEqual(getattr(modules, name).__module__, "aliasfold.modules")

    def test_arguments_have_the_names_of_the_interface(self):
        self.assertEqual(compile_module(text="(module m)", library={}).name, "m")
        self.assertEqual(imported_modules(data=[["module", "m"]]), [])
        self.assertEqual(module_name(data=[["module", "m"]]), "m")

    def test_the_example_of_the_interface(self):
        text = "(module m) (macro twice () ((x) (let ((t x)) (+ t t)))) (define f (fn (t) (twice (* t 3))))"
        self.assertEqual(
            compile_module(text, {}).definitions,
            [('f', ('fn', (0,), ('let', ((1, ('call', ('prim', '*'), (('local', 0), ('int', 3)))),),
                                 ('call', ('prim', '+'), (('local', 1), ('local', 1))))))])

    def test_the_fields_have_the_kinds_of_the_interface(self):
        unit = unit_of("(module m) (define f 1) (macro k (else) ((a) (+ a 1))) (export f)")
        literals, rules, scope = unit.macros["k"]
        kinds = [(unit.name, str), (unit.imports, list), (unit.exports, dict), (unit.macros, dict),
                 (unit.definitions, list), (unit.exports["f"], tuple), (unit.macros["k"], tuple), (literals, list),
                 (rules, list), (rules[0], tuple), (rules[0][0], list), (rules[0][1], list), (scope, dict),
                 (scope["f"], tuple), (unit.definitions[0], tuple)]
        for part, kind in kinds:
            self.assertIs(type(part), kind)


class NameTest(FoldCase):
    def test_the_name_of_a_module(self):
        for name in ["m", "module", "if", "a.b", "+", "1a", "....", ".."]:
            self.assertEqual(module_name(parse_all(f"(module {name})")), name)
            self.assertEqual(unit_of(f"(module {name}) (define x 1)").name, name)

    def test_only_the_first_form_is_looked_at(self):
        self.assertEqual(module_name([["module", "m"], 5, ["define"]]), "m")

    def test_no_name(self):
        for text in NO_FIRST_FORMS:
            self.assert_error(InvalidForm, module_name, parse_all(text))
            self.assert_error(InvalidForm, compile_module, text, {})
            self.assert_error(InvalidForm, compile_module, text + " (define)", {})


class ImportedTest(FoldCase):
    def test_each_once_in_the_order_of_the_imports(self):
        text = "(module m) (import b x) (define f 1) (import a) (import c y z) (import b u) (import a)"
        self.assertEqual(imported_modules(parse_all(text)), ["b", "a", "c"])
        self.assertEqual(imported_modules(parse_all("(module m)")), [])
        self.assertEqual(imported_modules(parse_all("(module m) (import m)")), ["m"])

    def test_the_first_form_is_not_looked_at(self):
        self.assertEqual(imported_modules([5, ["import", "a"]]), ["a"])

    def test_names_are_not_checked(self):
        text = "(module m) (import a x x) (define x 1) (export y y) (define x (fn)) (macro x () (() (fn)))"
        self.assertEqual(imported_modules(parse_all(text)), ["a"])

    def test_a_malformed_form(self):
        for form in MALFORMED:
            self.assert_error(InvalidForm, imported_modules, parse_all(f"(module m) {form}"))
            self.assert_error(InvalidForm, imported_modules, parse_all(f"(module m) {' '.join(FORMS)} {form}"))

    def test_the_rules_of_a_macro(self):
        self.assert_error(InvalidRule, imported_modules, parse_all("(module m) (macro k () (a 1))"))
        self.assert_error(DuplicateName, imported_modules, parse_all("(module m) (macro k () ((a a) 1))"), name="a")

    def test_the_forms_one_by_one(self):
        self.assert_error(InvalidForm, imported_modules, parse_all("(module m) (define) (macro k () 5)"))
        self.assert_error(InvalidRule, imported_modules, parse_all("(module m) (macro k () 5) (define)"))

    def test_the_data_stay(self):
        data = parse_all(
            "(module m) (import b x (y z)) (export x) (define f (fn (x) x)) (macro k (a) ((b ...) (b ...)))")
        before = copy.deepcopy(data)
        found = imported_modules(data)
        found.append("x")
        self.assertEqual(module_name(data), "m")
        self.assertEqual(data, before)
        self.assertEqual(imported_modules(data), ["b"])


class FormTest(FoldCase):
    def test_a_malformed_form(self):
        units = library("(module o) (define x 1) (export x)")
        for form in MALFORMED:
            self.assert_error(InvalidForm, compile_module, f"(module m) {form}", units)
            self.assert_error(InvalidForm, compile_module, f"(module m) (define f 1) (export f) {form}", units)

    def test_forms_in_any_order(self):
        units = library("(module o) (define x 1) (export x)")
        forms = ["(import o x)", "(export f k x)", "(define f (k x))", "(define g 2)", "(macro k () ((a) (+ a g)))"]
        expected = fields_of(compile_module("(module m)" + " ".join(forms), units))
        for at in range(5):
            other = fields_of(compile_module("(module m)" + " ".join(forms[at:] + forms[:at]), units))
            self.assertEqual(other[:4], expected[:4])
            self.assertEqual(sorted(other[4]), sorted(expected[4]))

    def test_a_lone_name(self):
        self.assertEqual(fields_of(unit_of("(module m)")), ("m", [], {}, {}, []))
        self.assertEqual(write_unit(unit_of("; nothing\n(module m) ; at all")), "(unit m () () () ())\n")

    def test_definitions_in_their_order(self):
        unit = unit_of("(module m) (define b 1) (macro k () (() 1)) (define a (k)) (define c b)")
        self.assertEqual(unit.definitions, [("b", ONE), ("a", ONE), ("c", glo("b"))])

    def test_macros_are_kept_as_they_are(self):
        unit = unit_of("(module m) (macro k (else b) ((a (b ...) else) (+ a 1)) (() 5) ((x ...) (k (x y) ...)))")
        literals, rules, _ = unit.macros["k"]
        self.assertEqual(literals, ["else", "b"])
        self.assertEqual(rules,
                         [(["a", ["b", "..."], "else"], ["+", "a", 1]), ([], 5),
                          (["x", "..."], ["k", ["x", "y"], "..."])])

    def test_an_import_without_items(self):
        units = library("(module o) (define x 1) (export x)")
        self.assertEqual(fields_of(compile_module("(module m) (import o)", units)), ("m", ["o"], {}, {}, []))
        self.assert_error(UnknownName, compile_module, "(module m) (import o) (define y x)", units, name="x")

    def test_several_exports(self):
        unit = unit_of("(module m) (export b) (define a 1) (define b 2) (define c 3) (export c a)")
        self.assertEqual(unit.exports, {name: ("global", "m", name) for name in "abc"})

    def test_names_like_the_words_of_the_forms(self):
        units = library("(module import) (define export 1) (export export)")
        text = "(module define) (import import (export import)) (define macro import) (export import macro)"
        unit = compile_module(text, units)
        self.assertEqual(unit.exports,
                         {"import": ("global", "import", "export"), "macro": ("global", "define", "macro")})
        self.assertEqual(unit.definitions, [("macro", glo("export", "import"))])


class ImportTest(FoldCase):
    UNITS = library(
        "(module a) (define x 1) (define y 2) (define hidden 3) (macro k () (() hidden)) (export x y k)",
        "(module b) (import a x (y z)) (import a (k j)) (define own 4) (export x z j own)",
    )

    def definitions(self, text):
        return compile_module(text, self.UNITS).definitions

    def test_names_and_other_names(self):
        text = "(module m) (import a x (y first) (k if)) (define f (first x (if)))"
        expected = call(glo("y", "a"), glo("x", "a"), glo("hidden", "a"))
        self.assertEqual(self.definitions(text), [("f", expected)])
        self.assert_error(UnknownName, self.definitions, "(module m) (import a (x y)) (define f x)", name="x")

    def test_the_same_thing_under_several_names(self):
        text = "(module m) (import a x (x y) (x z)) (import b (x u)) (define f (x y z u))"
        self.assertEqual(self.definitions(text), [("f", call(*[glo("x", "a")] * 4))])

    def test_names_that_are_handed_on(self):
        self.assertEqual(self.UNITS["b"].exports, {"x": ("global", "a", "x"), "z": ("global", "a", "y"),
                                                   "j": ("macro", "a", "k"), "own": ("global", "b", "own")})
        text = "(module m) (import b x z (j k) own) (define f (x z (k) own)) (export k)"
        self.assertEqual(self.definitions(text),
                         [("f", call(glo("x", "a"), glo("y", "a"), glo("hidden", "a"), glo("own", "b")))])
        unit = compile_module(text, self.UNITS)
        self.assertEqual((unit.imports, unit.exports), (["b"], {"k": ("macro", "a", "k")}))

    def test_two_names_exchanged(self):
        text = "(module m) (import a (x y) (y x)) (define f (x y))"
        self.assertEqual(self.definitions(text), [("f", call(glo("y", "a"), glo("x", "a")))])

    def test_imports_hold_in_macros(self):
        units = {**self.UNITS}
        units["m"] = compile_module("(module m) (import a (y x)) (macro k () ((a) (+ a x))) (export k)", units)
        unit = compile_module("(module n) (import m k) (define x 1) (define f (k x))", units)
        self.assertEqual(unit.definitions[1], ("f", op("+", glo("x", "n"), glo("y", "a"))))

    def test_a_name_that_is_not_imported(self):
        for name in ["x", "hidden", "k", "a", "own"]:
            self.assert_error(UnknownName, self.definitions, f"(module m) (import a y) (define f {name})", name=name)

    def test_an_unknown_module(self):
        self.assert_error(UnknownModule, self.definitions, "(module m) (import c)", name="c")
        self.assert_error(UnknownModule, self.definitions, "(module m) (import a x) (import c x) (import d)", name="c")
        self.assert_error(UnknownModule, self.definitions, "(module m) (import m)", name="m")

    def test_a_name_that_the_module_does_not_export(self):
        for item in ["hidden", "u", "if", "+", "(hidden x)", "(u x)"]:
            name = item.strip("()").split()[0]
            self.assert_error(UnknownName, self.definitions, f"(module m) (import a {item})", name=name)
            self.assert_error(UnknownName, self.definitions, f"(module m) (import a x {item})", name=name)

    def test_units_that_hand_on_words(self):
        units = {"o": read_unit("(unit o () ((choose special if) (plus prim +) (times prim *)) () ())\n")}
        text = "(module m) (import o choose (plus if) times) (define f (choose (if 1 2) times 3)) (export times)"
        unit = compile_module(text, units)
        self.assertEqual(unit.definitions, [("f", ("if", op("+", ONE, TWO), ("prim", "*"), num(3)))])
        self.assertEqual(unit.exports, {"times": ("prim", "*")})
        self.assert_error(MisusedName, compile_module, "(module m) (import o choose) (define f choose)", units,
                          name="choose")

    def test_a_literal_that_is_handed_on_under_another_name(self):
        macros = "((k (if) (((if) 1) ((a) 2)) ((if special if))))"
        units = {"o": read_unit(f"(unit o () ((choose special if) (k macro o k)) {macros} ())\n")}
        text = "(module m) (import o choose k) (define f (+ (k choose) (k if) (k +)))"
        self.assertEqual(compile_module(text, units).definitions, [("f", op("+", ONE, ONE, TWO))])

    def test_units_that_were_written_and_read(self):
        units = {name: read_unit(write_unit(self.UNITS[name])) for name in self.UNITS}
        text = "(module m) (import b x (j k)) (define f (fn (hidden) (x (k) hidden)))"
        self.assertEqual(compile_module(text, units).definitions, self.definitions(text))


class DuplicateTest(FoldCase):
    UNITS = library("(module a) (define x 1) (define y 2) (macro k () (() 1)) (export x y k)")

    def test_a_name_twice(self):
        for forms in [
            "(define x 1) (define x 2)", "(define x 1) (macro x () (() 1))", "(macro x () (() 1)) (define x 1)",
            "(macro x () (() 1)) (macro x () (() 1))", "(import a x) (define x 1)", "(define x 1) (import a x)",
            "(import a x) (macro x () (() 1))", "(macro x () (() 1)) (import a (y x))", "(import a x x)",
            "(import a x (y x))", "(import a (y x) x)", "(import a (x y) (y x) x)", "(import a x) (import a x)",
            "(import a x) (import a (k x))", "(define y 1) (define x 1) (define z 1) (define x 1)",
            "(import a (k x) (k x))",
        ]:
            self.assert_error(DuplicateName, compile_module, f"(module m) {forms}", self.UNITS, name="x")

    def test_an_export_twice(self):
        for forms in ["(export x x)", "(export x y x)", "(export x) (export x)", "(export y x) (export z x)"]:
            text = f"(module m) (define x 1) (define y 2) (define z 3) {forms}"
            self.assert_error(DuplicateName, compile_module, text, self.UNITS, name="x")

    def test_no_name_twice(self):
        text = "(module a) (define a 1) (import a x (x y)) (export x y) (define if 1) (define first 1)"
        self.assertEqual(compile_module(text, self.UNITS).exports,
                         {"x": ("global", "a", "x"), "y": ("global", "a", "x")})


class OrderTest(FoldCase):
    UNITS = library("(module a) (define x 1) (define y 2) (export x y)")
    # Each fault with its error, in the order in which they are told wherever they stand.
    FAULTS = [
        (InvalidForm, "(define)"),
        (UnknownModule, "(import c)"),
        (UnknownName, "(export nothing)"),
        (DuplicateName, "(define twice (fn (x x) 1))"),
    ]

    def assert_first(self, cls, forms, **fields):
        self.assert_error(cls, compile_module, f"(module m) {forms}", self.UNITS, **fields)

    def test_the_errors_of_the_text_come_first(self):
        for text, cls, at in [(")", UnexpectedClose, 0), ("(define) )", UnexpectedClose, 9),
                              ("(module 5) 07", InvalidWord, 11), ("(", UnexpectedEnd, 1),
                              ("5 (import c", UnexpectedEnd, 11), ("(define) (", UnexpectedEnd, 10)]:
            self.assert_error(cls, compile_module, text, {}, at=at)
        self.assert_error(TooDeep, compile_module, "(module 5) " + "(" * 61, {})

    def test_the_first_form_comes_before_the_others(self):
        for cls, form in self.FAULTS:
            self.assert_error(InvalidForm, compile_module, f"(module) {form}", self.UNITS)
        self.assert_error(InvalidForm, compile_module, "(module 5) (macro k () 5)", self.UNITS)

    def test_each_kind_of_check_comes_before_the_next_one(self):
        for first, (cls, form) in enumerate(self.FAULTS):
            for _, other in self.FAULTS[first + 1:]:
                self.assert_first(cls, f"{form} {other}")
                self.assert_first(cls, f"{other} {form}")

    def test_the_forms_one_by_one(self):
        self.assert_first(InvalidForm, "(define) (macro k () 5)")
        self.assert_first(InvalidRule, "(macro k () 5) (define)")
        self.assert_first(InvalidRule, "(define x 1) (define x 1) (macro k () 5)")
        self.assert_first(DuplicateName, "(macro k () ((a a) 1)) (macro j () 5)", name="a")

    def test_the_names_of_the_forms_in_order(self):
        self.assert_first(UnknownModule, "(import c) (import a u) (define x 1) (define x 1)", name="c")
        self.assert_first(UnknownName, "(import a u) (import c) (define x 1) (define x 1)", name="u")
        self.assert_first(DuplicateName, "(define x 1) (define x 1) (import a u) (import c)", name="x")
        self.assert_first(DuplicateName, "(define x 1) (macro x () (() 1)) (import c)", name="x")
        self.assert_first(UnknownModule, "(define x 1) (import c) (define x 1)", name="c")

    def test_the_items_of_an_import_in_order(self):
        self.assert_first(UnknownName, "(import a x u x)", name="u")
        self.assert_first(DuplicateName, "(import a x x u)", name="x")
        self.assert_first(UnknownName, "(import a x (u x))", name="u")
        self.assert_first(UnknownName, "(define x 1) (import a u x)", name="u")
        self.assert_first(DuplicateName, "(define u 1) (import a (x u) v)", name="u")
        self.assert_first(UnknownModule, "(define x 1) (import c x)", name="c")

    def test_the_exports_one_by_one(self):
        self.assert_first(UnknownName, "(define x 1) (export x u x)", name="u")
        self.assert_first(DuplicateName, "(define x 1) (export x x u)", name="x")
        self.assert_first(UnknownName, "(export u v) (define x 1)", name="u")
        self.assert_first(UnknownName, "(define x 1) (export x) (export u) (export x)", name="u")
        self.assert_first(DuplicateName, "(define x 1) (export x) (export x) (export u)", name="x")
        self.assert_first(DuplicateName, "(export u) (define x 1) (define x 1)", name="x")
        self.assert_first(UnknownName, "(export u u)", name="u")

    def test_the_exports_come_before_the_definitions(self):
        self.assert_first(UnknownName, "(define x (fn)) (export u)", name="u")
        self.assert_first(DuplicateName, "(define x v) (export x x)", name="x")

    def test_the_definitions_one_by_one(self):
        self.assert_first(UnknownName, "(define x u) (define y (fn))", name="u")
        self.assert_first(InvalidForm, "(define y (fn)) (define x u)")

    def test_macros_that_are_not_called_are_not_expanded(self):
        self.assertEqual(len(unit_of("(module m) (macro k () (() (fn)) ((a) nothing))").macros), 1)


class ArgumentTest(FoldCase):
    def test_the_library_stays_and_what_is_returned_is_new(self):
        units = library(
            "(module a) (define x 1) (macro k (x) ((x b ...) (b ...)) ((b) (let ((x b)) x))) (export x k)",
            "(module b) (import a x k) (macro j () ((c) (k c))) (export x k j)",
        )
        before = copy.deepcopy({name: fields_of(units[name]) for name in units})
        text = ("(module m) (import b j (k x) (x y)) (define f (fn (z) (j (x z))))"
                " (macro u () ((c) (j c))) (export f u j)")
        first = compile_module(text, units)
        kept = copy.deepcopy(fields_of(first))
        self.assertEqual({name: fields_of(units[name]) for name in units}, before)
        self.assertEqual(list(units), ["a", "b"])
        first.imports.append("x")
        first.exports["x"] = ("prim", "+")
        first.macros["u"][0].append("x")
        first.macros["u"][1][0][0].append("x")
        first.macros["u"][2]["x"] = ("prim", "+")
        first.definitions.clear()
        self.assertEqual({name: fields_of(units[name]) for name in units}, before)
        self.assertEqual(fields_of(compile_module(text, units)), kept)
        self.assertEqual(dict(kept[4])["f"], fn([0], let([(2, let([(1, loc(0))], loc(1)))], loc(2))))


class LibraryTest(FoldCase):
    def test_a_library_may_have_more_units(self):
        units = library("(module a) (define x 1) (export x)", "(module z) (define x 2) (export x)")
        self.assertEqual(compile_module("(module m) (import a x) (define f x)", units).definitions,
                         [("f", glo("x", "a"))])

    def test_a_macro_of_the_module_has_the_name_of_an_imported_one(self):
        units = library("(module a) (macro k () (() 1)) (macro j () (() (k))) (export k j)")
        unit = compile_module("(module m) (import a j (k i)) (macro k () (() 2)) (define f (+ (i) (j) (k)))", units)
        self.assertEqual(unit.definitions, [("f", op("+", ONE, ONE, TWO))])

    def test_a_unit_of_the_same_name_in_the_library(self):
        units = library("(module m) (macro k () (() 1)) (macro j () (() 3)) (define x 1) (export k j x)")
        unit = compile_module("(module m) (macro k () (() 2)) (define f (k))", units)
        self.assertEqual(unit.definitions, [("f", TWO)])

    def test_macros_of_units_may_be_any_data(self):
        for rule in ["(() ...)", "((a) (a ...))", "((a ...) a)", "((... a) 1)", "((a a) 1)", "(5 1)", "(a b)"]:
            units = {"o": read_unit(f"(unit o () ((k macro o k)) ((k (...) ({rule}) ())) ())\n")}
            unit = compile_module("(module m) (import o k) (export k) (define x 1)", units)
            self.assertEqual((unit.exports, unit.definitions), ({"k": ("macro", "o", "k")}, [("x", ONE)]))

    def test_deep_rules_of_units(self):
        deep = "(" * 100 + "a" + ")" * 100
        units = {"o": read_unit(f"(unit o () ((k macro o k)) ((k () ((({deep}) 1) ((a) a) ((a b) {deep})) ())) ())\n")}
        unit = compile_module("(module m) (import o k) (define f (k (fn () 7)))", units)
        self.assertEqual(unit.definitions, [("f", fn([], num(7)))])
        self.assert_error(TooDeep, compile_module, "(module m) (import o k) (define f (k 7 8))", units)
