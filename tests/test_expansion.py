"""Points 4.1 to 4.4: expansion and its errors."""

from aliasfold.core import well_formed
from aliasfold.errors import (
    DuplicateName, InvalidForm, InvalidRule, MisusedName, NoMatchingRule, OutOfFuel, TooLarge, UnknownName,
)
from tests.programs import ONE, THREE, TWO, add, call, choose, fn, glo, let, loc, num, op, prim
from tests.support import FoldCase, core_of, unit_of

# Forms that are malformed, whatever their parts are.
MALFORMED = [
    "(fn)", "(fn (x))", "(fn x)", "(fn (x) x x)", "(fn x x)", "(fn 5 x)", "(fn ... x)", "(fn () )", "(let)",
    "(let ((x 1)))", "(let ((x 1)) x x)", "(let x x)", "(let 5 x)", "(let (x) x)", "(let (5) x)", "(let ((x)) x)",
    "(let (()) x)", "(let ((x 1 2)) x)", "(let ((x 1) y) x)", "(let ())", "(if)", "(if 1)", "(if 1 2)", "(if 1 2 3 4)",
    "(let-macro)", "(let-macro ())", "(let-macro () 1 2)", "(let-macro k 1)", "(let-macro 5 1)", "(let-macro ... 1)",
]


class TreeTest(FoldCase):
    def test_integers(self):
        for k in [0, 7, -7, 10 ** 40 - 1, 1 - 10 ** 40]:
            self.assert_core(num(k), str(k))

    def test_calls(self):
        self.assert_core(op("+", ONE, TWO), "(+ 1 2)")
        self.assert_core(call(glo("it")), "(it)")
        self.assert_core(call(ONE, TWO), "(1 2)")
        self.assert_core(call(call(prim("first"))), "((first))")
        self.assert_core(call(fn([0], loc(0)), ONE), "((fn (x) x) 1)")
        self.assert_core(call(choose(ONE, prim("+"), prim("-")), TWO), "((if 1 + -) 2)")
        self.assert_core(op("first", ONE, TWO, THREE), "(first 1 2 3)")

    def test_functions(self):
        self.assert_core(fn([], ONE), "(fn () 1)")
        self.assert_core(fn([0, 1, 2], call(loc(2), loc(1), loc(0))), "(fn (a b c) (c b a))")

    def test_lets(self):
        self.assert_core(let([], ONE), "(let () 1)")
        self.assert_core(let([(0, ONE), (1, TWO)], op("-", loc(1), loc(0))), "(let ((a 1) (b 2)) (- b a))")

    def test_the_values_of_a_let_are_outside_of_its_names(self):
        self.assert_core_error(UnknownName, "(let ((a a)) a)", name="a")
        self.assert_core_error(UnknownName, "(let ((a 1) (b a)) b)", name="a")
        self.assert_core_error(UnknownName, "(let ((a b) (b 1)) a)", name="b")
        self.assert_core(let([(0, glo("a")), (1, glo("b"))], add(loc(0), loc(1))), "(let ((a a) (b b)) (+ a b))",
                         "(define a 1) (define b 2)")
        self.assert_core(fn([0, 1], let([(2, loc(1)), (3, loc(0))], op("-", loc(2), loc(3)))),
                         "(fn (a b) (let ((a b) (b a)) (- a b)))")

    def test_choices(self):
        self.assert_core(choose(ONE, TWO, THREE), "(if 1 2 3)")
        self.assert_core(choose(prim("+"), call(prim("-")), num(0)), "(if + (-) 0)")

    def test_local_macros_add_nothing_to_the_tree(self):
        self.assert_core(ONE, "(let-macro () 1)")
        self.assert_core(op("+", ONE, TWO), "(let-macro ((k () ((a) (+ 1 a)))) (k 2))")

    def test_a_deep_tree(self):
        expression, expected = "1", ONE
        for k in range(57, -1, -1):
            expression, expected = f"(fn (x) {expression})", fn([k], expected)
        self.assert_core(expected, expression)
        self.assertTrue(well_formed(core_of(expression), []))

    def test_a_wide_tree(self):
        many = 19998
        self.assert_core(op("+", *[ONE] * many), f"(+ {'1 ' * many})")
        names = " ".join(f"a{k}" for k in range(30000))
        self.assert_core(fn(range(30000), loc(29999)), f"(fn ({names}) a29999)")


class NumberTest(FoldCase):
    def test_nested_forms(self):
        self.assert_core(fn([0], fn([1], fn([2], call(loc(0), loc(1), loc(2))))), "(fn (a) (fn (b) (fn (c) (a b c))))")
        self.assert_core(op("+", fn([0], loc(0)), fn([1], loc(1))), "(+ (fn (a) a) (fn (a) a))")
        self.assert_core(call(fn([0], loc(0)), fn([1, 2], loc(1))), "((fn (a) a) (fn (a b) a))")

    def test_names_of_a_let_are_behind_its_values(self):
        self.assert_core(let([(2, fn([0], loc(0))), (3, fn([1], loc(1)))], fn([4], call(loc(2), loc(3), loc(4)))),
                         "(let ((a (fn (x) x)) (b (fn (y) y))) (fn (z) (a b z)))")
        self.assert_core(let([(1, let([(0, ONE)], loc(0)))], let([(2, loc(1))], loc(2))),
                         "(let ((a (let ((b 1)) b))) (let ((c a)) c))")

    def test_parts_of_a_choice(self):
        self.assert_core(choose(fn([0], loc(0)), fn([1], loc(1)), fn([2], loc(2))),
                         "(if (fn (a) a) (fn (a) a) (fn (a) a))")

    def test_each_definition_begins_with_0(self):
        unit = unit_of("(module m) (define f (fn (a b) b)) (define g (fn (a) (let ((b a)) b)))")
        self.assertEqual(unit.definitions, [("f", fn([0, 1], loc(1))), ("g", fn([0], let([(1, loc(0))], loc(1))))])

    def test_behind_macro_calls(self):
        forms = "(macro k () ((a b) (let ((t b)) (fn (u) (a t u)))))"
        # The data of the second variable stand first, so theirs are the first numbers.
        self.assert_core(let([(1, fn([0], loc(0)))], fn([2], call(fn([3], loc(3)), loc(1), loc(2)))),
                         "(k (fn (x) x) (fn (y) y))", forms)

    def test_data_that_stand_nowhere_get_no_numbers(self):
        forms = "(macro k () ((a b) b))"
        self.assert_core(fn([0], loc(0)), "(k (fn (x) (fn (y) z)) (fn (x) x))", forms)

    def test_data_that_stand_twice_get_new_numbers(self):
        forms = "(macro k () ((a) (+ a a)))"
        self.assert_core(op("+", op("+", fn([0], loc(0)), fn([1], loc(1))), op("+", fn([2], loc(2)), fn([3], loc(3)))),
                         "(k (k (fn (x) x)))", forms)

    def test_local_macros_get_no_numbers(self):
        self.assert_core(fn([0], fn([1], call(loc(0), loc(1)))),
                         "(fn (a) (let-macro ((k () ((x y) (x y))) (j () (() 1))) (fn (b) (k a b))))")

    def test_the_example_of_the_interface(self):
        self.assert_core(fn([0], let([(1, op("*", loc(0), THREE))], op("+", loc(1), loc(1)))),
                         "(fn (t) (twice (* t 3)))",
                         "(macro twice () ((x) (let ((t x)) (+ t t))))")


class LocalMacroTest(FoldCase):
    def test_the_rules_are_inside_of_all_names(self):
        self.assert_core(ONE, "(let-macro ((k () (() (j))) (j () (() 1))) (k))")
        self.assert_core(ONE, "(let-macro ((j () (() 1)) (k () (() (j)))) (k))")
        self.assert_core(THREE, "(let-macro ((even () (() 2) ((a b ...) (odd b ...))) "
                         "(odd () (() 3) ((a b ...) (even b ...)))) (even 1 1 1))")
        self.assert_core(op("+", ONE, op("+", TWO, num(0))),
                         "(let-macro ((k () (() 0) ((a b ...) (+ a (k b ...))))) (k 1 2))")

    def test_an_inner_one_hides_an_outer_one(self):
        self.assert_core(TWO, "(let-macro ((k () (() 1))) (let-macro ((k () (() 2))) (k)))")
        self.assert_core(ONE, "(let-macro ((k () (() 1)) (j () (() (k)))) (let-macro ((k () (() 2))) (j)))")
        self.assert_core(op("+", TWO, ONE), "(let-macro ((k () (() 1))) (+ (let-macro ((k () (() 2))) (k)) (k)))")

    def test_one_in_the_value_of_a_let(self):
        self.assert_core(let([(0, ONE)], loc(0)), "(let ((x (let-macro ((k () (() 1))) (k)))) x)")
        self.assert_core_error(UnknownName, "(let ((x (let-macro ((k () (() 1))) (k)))) (k))", name="k")

    def test_one_that_uses_variables(self):
        self.assert_core(fn([0], fn([1], op("+", loc(0), loc(1)))),
                         "(fn (x) (let-macro ((k () ((y) (+ x y)))) (fn (x) (k x))))")

    def test_one_of_another_definition(self):
        self.assert_error(UnknownName, unit_of, "(module m) (define a (let-macro ((k () (() 1))) (k))) (define b (k))",
                          name="k")


class ErrorTest(FoldCase):
    def test_a_malformed_form(self):
        for expression in MALFORMED:
            self.assert_core_error(InvalidForm, expression)
            self.assert_core_error(InvalidForm, f"(+ 1 {expression})")

    def test_the_empty_list(self):
        for expression in ["()", "(+ ())", "(())", "(fn (x) ())", "(let ((x ())) 1)", "(if 1 2 ())",
                           "(let-macro () ())"]:
            self.assert_core_error(InvalidForm, expression)
        self.assert_core_error(InvalidForm, "(k)", "(macro k () (() ()))")

    def test_a_malformed_form_that_a_macro_inserts(self):
        for expression in MALFORMED:
            if "..." not in expression:
                self.assert_core_error(InvalidForm, "(k)", f"(macro k () (() {expression}))")

    def test_a_hidden_form_is_not_malformed(self):
        self.assert_core(fn([0], call(loc(0), ONE)), "(fn (if) (if 1))")
        self.assert_core(fn([0], call(loc(0))), "(fn (let) (let))")

    def test_a_name_that_is_none(self):
        for name in ["5", "(x)", "()", "..."]:
            self.assert_core_error(InvalidForm, f"(fn ({name}) 1)")
            self.assert_core_error(InvalidForm, f"(fn (x {name} x) 1)")
            self.assert_core_error(InvalidForm, f"(let (({name} 1)) 1)")
            self.assert_core_error(InvalidForm, f"(let ((x 1) ({name} 1) (x 1)) 1)")

    def test_a_name_twice(self):
        for expression in ["(fn (x x) 1)", "(fn (y x z x) 1)", "(let ((x 1) (x 2)) 1)", "(let ((x 1) (y 2) (x 3)) 1)",
                           "(let-macro ((x () (() 1)) (x () (() 1))) 1)", "(fn (x x 5) 1)", "(fn (x x y y) 1)",
                           "(let ((x 1) (x 2) (... 3)) 1)",
                           "(let-macro ((y () (() 1)) (x () (() 1)) (x () (() 1))) 1)"]:
            self.assert_core_error(DuplicateName, expression, name="x")

    def test_an_inserted_name_twice(self):
        self.assert_core_error(DuplicateName, "(k)", "(macro k () (() (fn (t t) 1)))", name="t")
        self.assert_core_error(DuplicateName, "(k u)", "(macro k () ((n) (fn (t n n) 1)))", name="u")
        self.assert_core_error(DuplicateName, "(k)", "(macro k () (() (let-macro ((t () (() 1)) (t () (() 1))) 1)))",
                               name="t")
        self.assert_core(fn([0, 1], op("-", loc(0), loc(1))), "(k t)", "(macro k () ((n) (fn (t n) (- t n))))")

    def test_an_unknown_name(self):
        for expression in ["x", "(x)", "(x 1)", "(+ 1 x)", "(fn (y) x)", "(let ((y x)) y)", "(if 1 2 x)",
                           "((fn (x) 1) x)"]:
            self.assert_core_error(UnknownName, expression, name="x")

    def test_a_misused_name(self):
        for word in ["if", "fn", "let", "let-macro", "k"]:
            for expression in [word, f"(+ {word})", f"(fn (x) {word})", f"(let ((x {word})) x)", f"(if {word} 1 2)"]:
                self.assert_core_error(MisusedName, expression, "(macro k () (() 1))", name=word)
        self.assert_core_error(MisusedName, "(let-macro ((j () (() 1))) (+ j))", name="j")

    def test_inserted_names_in_errors(self):
        forms = """
            (macro unknown () (() (+ 1 nothing)))
            (macro misused () (() (+ 1 if)))
            (macro wrong () (() (k 1 2)) ((a) (let-macro ((j () ((5) 1))) (j a))))
            (macro k () (() 1))
            (macro twice () (() (unknown)))
            (macro macros () (() (let-macro ((j () (() nothing))) (j))))
            (macro names () ((n) (+ n)))
            """
        self.assert_core_error(UnknownName, "(unknown)", forms, name="nothing")
        self.assert_core_error(UnknownName, "(twice)", forms, name="nothing")
        self.assert_core_error(UnknownName, "(macros)", forms, name="nothing")
        self.assert_core_error(MisusedName, "(misused)", forms, name="if")
        self.assert_core_error(NoMatchingRule, "(wrong)", forms, name="k")
        self.assert_core_error(NoMatchingRule, "(wrong 6)", forms, name="j")
        self.assert_core_error(UnknownName, "(names x)", forms, name="x")
        self.assert_core_error(UnknownName, "(names ...)", forms, name="...")

    def test_a_macro_under_another_name(self):
        other = unit_of("(module o) (export k) (macro k () (() k) ((1) 2) ((a b) (k 5)))")
        self.assert_core_error(NoMatchingRule, "(j 5)", "(import o (k j))", other, name="j")
        self.assert_core_error(NoMatchingRule, "(j 5 6)", "(import o (k j))", other, name="k")
        self.assert_core_error(MisusedName, "j", "(import o (k j))", other, name="j")
        self.assert_core_error(MisusedName, "(j)", "(import o (k j))", other, name="k")

    def test_a_call_of_a_macro_that_a_local_name_hides(self):
        self.assert_core(fn([0], call(loc(0), ONE)), "(fn (k) (k 1))", "(macro k () (() 2))")


class OrderTest(FoldCase):
    def test_the_shape_of_a_form_comes_before_its_names(self):
        self.assert_core_error(InvalidForm, "(fn (x x))")
        self.assert_core_error(InvalidForm, "(fn (x x) 1 2)")
        self.assert_core_error(InvalidForm, "(let ((x 1) (x)) 1)")
        self.assert_core_error(InvalidForm, "(let ((x 1) (x 2) y) 1)")
        self.assert_core_error(InvalidForm, "(let ((x 1) (x 2)))")
        self.assert_core_error(InvalidForm, "(let-macro ((k 5)))")
        self.assert_core_error(InvalidForm, "(let-macro ((k () (() 1)) (k () (() 1))))")

    def test_the_names_of_a_form_from_left_to_right(self):
        self.assert_core_error(DuplicateName, "(fn (y y x x) 1)", name="y")
        self.assert_core_error(DuplicateName, "(fn (y x x y) 1)", name="x")
        self.assert_core_error(DuplicateName, "(fn (x x 5) 1)", name="x")
        self.assert_core_error(InvalidForm, "(fn (x 5 x) 1)")
        self.assert_core_error(InvalidForm, "(fn (5 x x) 1)")
        self.assert_core_error(InvalidForm, "(fn (5 5) 1)")
        self.assert_core_error(InvalidForm, "(let ((x 1) (5 2) (x 3)) 1)")

    def test_the_names_of_a_form_come_before_its_parts(self):
        self.assert_core_error(DuplicateName, "(fn (x x) nothing)", name="x")
        self.assert_core_error(DuplicateName, "(let ((x nothing) (x 2)) 1)", name="x")
        self.assert_core_error(InvalidForm, "(let ((x nothing) (5 2)) 1)")
        self.assert_core_error(InvalidForm, "(if nothing 2)")
        self.assert_core_error(InvalidForm, "(fn (x) nothing nothing)")
        self.assert_core_error(InvalidRule, "(let-macro ((k 5)) nothing)")
        self.assert_core_error(DuplicateName, "(let-macro ((k () (() 1)) (k () (() 1))) nothing)", name="k")

    def test_the_macros_of_a_let_macro_come_before_their_names(self):
        self.assert_core_error(InvalidRule, "(let-macro ((k () (() 1)) (k () (() 1)) (j 5)) 1)")
        self.assert_core_error(InvalidRule, "(let-macro ((k () (() 1)) (k () (() 1)) (5 () (() 1))) 1)")
        self.assert_core_error(InvalidRule, "(let-macro ((k () (() 1)) (k () (() 1)) 5) 1)")
        self.assert_core_error(DuplicateName, "(let-macro ((k () (() 1)) (k () (() 1)) (j () ((a a) 1))) 1)", name="a")
        large = f"(() ({'1 ' * 500}))"
        self.assert_core_error(TooLarge, f"(let-macro ((k () (() 1)) (k () (() 1)) (j () {large})) 1)")

    def test_the_parts_of_a_form_from_left_to_right(self):
        for expression in ["(+ u v)", "(u v)", "(if u v w)", "(if 1 u v)", "(let ((x u) (y v)) w)",
                           "(let ((x 1) (y u)) v)", "(+ (fn (x) u) (fn (y y) 1))", "((fn (x) u) v)", "(u (fn))",
                           "(let ((x (+ u))) (fn))"]:
            self.assert_core_error(UnknownName, expression, name="u")
        self.assert_core_error(InvalidForm, "((fn) u)")
        self.assert_core_error(MisusedName, "(+ if u)", name="if")

    def test_the_definitions_one_by_one(self):
        self.assert_error(UnknownName, unit_of, "(module m) (define a u) (define b (fn))", name="u")
        self.assert_error(InvalidForm, unit_of, "(module m) (define a (fn)) (define b u)")

    def test_the_fuel_is_checked_before_the_rules(self):
        forms = "(macro k () (() 1))"
        many = " ".join(["(k)"] * 300)
        self.assert_core_error(OutOfFuel, f"(+ {many} (k 5))", forms, name="k")
        self.assert_core_error(NoMatchingRule, f"(+ {many[4:]} (k 5))", forms, name="k")
