"""Points 3.1 to 3.5: macro calls."""

from aliasfold.errors import DuplicateName, MisusedName, NoMatchingRule, UnknownName
from tests.programs import ONE, THREE, TWO, call, choose, fn, glo, let, loc, num, op, prim
from tests.support import FoldCase, unit_of

FOUR, FIVE = num(4), num(5)


def macro(rules, literals=""):
    return f"(macro k ({literals}) {rules})"


class RuleTest(FoldCase):
    def test_the_first_rule_that_matches(self):
        forms = macro("(() 0) ((1) 10) ((a) 20) ((2) 30) ((a b) 40) ((a ...) 50)")
        for expression, expected in [("(k)", 0), ("(k 1)", 10), ("(k 3)", 20), ("(k 2)", 20), ("(k 1 1)", 40),
                                     ("(k 1 2 3)", 50)]:
            self.assert_core(num(expected), expression, forms)

    def test_a_rule_that_matches_in_part_leaves_nothing(self):
        self.assert_core(op("+", TWO, ONE), "(k 1 2)", macro("((a 3) a) ((b a) (+ a b))"))
        self.assert_core(op("+", ONE, TWO, THREE), "(k (1 2) 3)", macro("(((a ...) 4) 0) (((a ...) b) (+ a ... b))"))

    def test_no_rule_matches(self):
        self.assert_core_error(NoMatchingRule, "(k 1)", macro("(() 0)"), name="k")
        self.assert_core_error(NoMatchingRule, "(k)", macro("((a) 0)"), name="k")
        self.assert_core_error(NoMatchingRule, "(let-macro ((j () ((1) 2))) (j 2))", name="j")

    def test_a_macro_that_is_no_head_is_no_call(self):
        self.assert_core_error(MisusedName, "(+ k 1)", macro("(() 0)"), name="k")
        self.assert_core(call(ONE), "((k))", macro("(() 1)"))
        self.assert_core_error(MisusedName, "((j))", "(macro k () (() 1)) (macro j () (() k))", name="k")

    def test_what_a_call_becomes_may_be_any_expression(self):
        self.assert_core(FIVE, "(k)", macro("(() 5)"))
        self.assert_core(prim("+"), "(k)", macro("(() +)"))
        self.assert_core(TWO, "(k k 2)", macro("((a b) (a b)) ((a) a)"))
        self.assert_core(fn([0], loc(0)), "(k fn (x) x)", macro("((a ...) (a ...))"))
        self.assert_core(op("+", ONE), "(k (+ 1))", macro("((a) a)"))


class PatternTest(FoldCase):
    def test_an_integer(self):
        forms = macro("((7) 1) ((-7) 2) ((0) 3) ((x) 4)")
        for word, expected in [("7", 1), ("-7", 2), ("0", 3), ("8", 4), ("x", 4), ("(7)", 4)]:
            self.assert_core(num(expected), f"(k {word})", forms)

    def test_an_integer_of_forty_digits(self):
        digits = "9" * 40
        self.assert_core(ONE, f"(k {digits})", macro(f"(({digits}) 1)"))

    def test_a_variable_matches_any_datum(self):
        for word in ["1", "()", "(1 (2) 3)", "x", "if", "k", "...", "(...)"]:
            self.assert_core(ONE, f"(k {word})", macro("((a) 1)"))

    def test_a_variable_may_have_any_name(self):
        for word in ["if", "fn", "let", "let-macro", "+", "first", "k", "it", "m"]:
            self.assert_core(op("*", ONE, TWO), "(k (* 5 2))", f"(macro k () (((a {word} b)) (a 1 b)))")
            self.assert_core(op("*", FIVE, TWO), "(k (* 5 2))", f"(macro k () (((a {word} b)) (a {word} b)))")

    def test_a_list(self):
        forms = macro("((()) 0) (((a)) 1) (((a b)) 2) (((a (b c))) 3) ((a) 9)")
        for word, expected in [("()", 0), ("(5)", 1), ("(5 6)", 2), ("((1 2))", 1), ("(1 2 3)", 9), ("5", 9), ("x", 9)]:
            self.assert_core(num(expected), f"(k {word})", forms)

    def test_the_elements_of_a_list(self):
        forms = macro("(((a (b c)) d) (+ a b c d)) ((a b) 0)")
        self.assert_core(op("+", ONE, TWO, THREE, FOUR), "(k (1 (2 3)) 4)", forms)
        self.assert_core(num(0), "(k (1 (2)) 4)", forms)
        self.assert_core(num(0), "(k (1 2) 4)", forms)

    def test_further_elements(self):
        forms = macro("((a ...) (+ a ...))")
        self.assert_core(op("+"), "(k)", forms)
        self.assert_core(op("+", ONE), "(k 1)", forms)
        self.assert_core(op("+", ONE, TWO, THREE), "(k 1 2 3)", forms)
        self.assert_core(op("+", *[num(k) for k in range(200)]), f"(k {' '.join(map(str, range(200)))})", forms)

    def test_elements_ahead_of_further_ones(self):
        forms = macro("((a b c ...) (+ c ... a b)) ((a ...) 0)")
        self.assert_core(num(0), "(k)", forms)
        self.assert_core(num(0), "(k 1)", forms)
        self.assert_core(op("+", ONE, TWO), "(k 1 2)", forms)
        self.assert_core(op("+", THREE, ONE, TWO), "(k 1 2 3)", forms)
        self.assert_core(op("+", THREE, FOUR, ONE, TWO), "(k 1 2 3 4)", forms)

    def test_further_elements_that_are_lists(self):
        forms = macro("(((a b) ...) (+ a ... (* b ...))) ((a ...) 0)")
        self.assert_core(op("+", op("*")), "(k)", forms)
        self.assert_core(op("+", ONE, THREE, op("*", TWO, FOUR)), "(k (1 2) (3 4))", forms)
        self.assert_core(num(0), "(k (1 2) (3))", forms)
        self.assert_core(num(0), "(k (1 2) 3)", forms)

    def test_further_elements_of_an_inner_list(self):
        forms = macro("((a (b ...) c) (+ a b ... c)) ((a ...) 0)")
        self.assert_core(op("+", ONE, TWO, THREE, FOUR), "(k 1 (2 3) 4)", forms)
        self.assert_core(op("+", ONE, FOUR), "(k 1 () 4)", forms)
        self.assert_core(num(0), "(k 1 2 4)", forms)

    def test_further_integers_and_literals(self):
        self.assert_core(ONE, "(k 7 7 7)", macro("((7 ...) 1) ((a ...) 2)"))
        self.assert_core(TWO, "(k 7 8 7)", macro("((7 ...) 1) ((a ...) 2)"))
        self.assert_core(ONE, "(k else else)", macro("((else ...) 1) ((a ...) 2)", "else"))
        self.assert_core(TWO, "(k else 1)", macro("((else ...) 1) ((a ...) 2)", "else"))


class LiteralTest(FoldCase):
    def assert_literal(self, expected, expression, literal, forms="", *library):
        """Whether the macro `k`, which has one literal, takes what it is called with for the literal."""
        rules = macro(f"(({literal}) 1) ((other) 2)", literal)
        self.assert_core(ONE if expected else TWO, expression, f"{rules} {forms}", *library)

    def test_without_a_meaning(self):
        self.assert_literal(True, "(k else)", "else")
        self.assert_literal(False, "(k other)", "else")
        self.assert_literal(False, "(k +)", "else")
        self.assert_literal(False, "(k it)", "else")
        self.assert_literal(False, "(k 5)", "else")
        self.assert_literal(False, "(k (else))", "else")
        self.assert_literal(False, "(k ...)", "else")

    def test_a_special_form_a_primitive_and_the_names_of_the_module(self):
        forms = "(define x 1) (macro j () (() 1))"
        for literal in ["if", "let-macro", "+", "first", "x", "it", "j", "k"]:
            for word in ["if", "let-macro", "+", "first", "x", "it", "j", "k", "else"]:
                self.assert_literal(word == literal, f"(k {word})", literal, forms)

    def test_bound_by_a_form_at_the_call(self):
        for literal in ["else", "if", "+", "x"]:
            forms = "(define x 1)"
            rules = macro(f"(({literal}) 1) ((other) 2)", literal) + forms
            self.assert_core(fn([0], TWO), f"(fn ({literal}) (k {literal}))", rules)
            self.assert_core(let([(0, ONE)], TWO), f"(let (({literal} (k {literal}))) (k {literal}))", rules)
            self.assert_core(TWO, f"(let-macro (({literal} () (() 1))) (k {literal}))", rules)

    def test_bound_by_a_definition_an_import_or_a_macro_of_the_calling_module(self):
        other = unit_of("(module o) (export k x) (define x 1) (macro k (else) ((else) 1) ((other) 2))")
        self.assert_core(ONE, "(k else)", "(import o k)", other)
        self.assert_core(TWO, "(k else)", "(import o k) (define else 1)", other)
        self.assert_core(TWO, "(k else)", "(import o k (x else))", other)
        self.assert_core(TWO, "(k else)", "(import o k) (macro else () (() 1))", other)

    def test_bound_in_the_module_of_the_macro(self):
        other = unit_of("(module o) (export k) (define else 1) (macro k (else) ((else) 1) ((other) 2))")
        self.assert_core(TWO, "(k else)", "(import o k)", other)
        self.assert_core(TWO, "(k else)", "(import o k) (define else 1)", other)

    def test_imported_under_another_name(self):
        other = unit_of("(module o) (export k x) (define x 1) (macro k (x) ((x) 1) ((other) 2))")
        self.assert_core(ONE, "(k y)", "(import o k (x y))", other)
        self.assert_core(ONE, "(k x)", "(import o k x)", other)
        self.assert_core(TWO, "(k x)", "(import o k (x y))", other)
        self.assert_core(TWO, "(k x)", "(import o k)", other)
        self.assert_core(TWO, "(k x)", "(import o k (x y)) (define x 1)", other)
        self.assert_core(op("+", ONE, ONE), "(+ (k y) (k z))", "(import o k (x y) (x z))", other)

    def test_a_literal_that_is_itself_imported(self):
        base = unit_of("(module b) (export x j) (define x 1) (macro j () (() 1))")
        rules = "(macro k (u v) ((u) 1) ((v) 2) ((other) 3))"
        other = unit_of(f"(module o) (import b (x u) (j v)) (export k u) {rules}", base)
        self.assert_core(op("+", ONE, TWO), "(+ (k x) (k j))", "(import o k) (import b x j)", base, other)
        self.assert_core(op("+", ONE, THREE), "(+ (k p) (k x))", "(import o k (u p))", base, other)

    def test_a_primitive_that_is_hidden_at_the_call(self):
        other = unit_of("(module o) (export k) (macro k (+) ((+) 1) ((other) 2))")
        self.assert_core(ONE, "(k +)", "(import o k)", other)
        self.assert_core(TWO, "(k +)", "(import o k) (define + 1)", other)

    def test_a_local_variable(self):
        rules = "((x) 1) ((other) 2)"
        self.assert_core(fn([0], ONE), f"(fn (x) (let-macro ((k (x) {rules})) (k x)))")
        self.assert_core(fn([0], fn([1], TWO)), f"(fn (x) (let-macro ((k (x) {rules})) (fn (x) (k x))))")
        self.assert_core(fn([0], let([(1, loc(0))], TWO)),
                         f"(fn (x) (let-macro ((k (x) {rules})) (let ((x x)) (k x))))")
        self.assert_core(fn([0, 1], TWO), f"(fn (x y) (let-macro ((k (x) {rules})) (k y)))")

    def test_a_local_macro(self):
        rules = "((j) 1) ((other) 2)"
        self.assert_core(ONE, f"(let-macro ((j () (() 0)) (k (j) {rules})) (k j))")
        self.assert_core(ONE, f"(let-macro ((k (j) {rules}) (j () (() 0))) (k j))")
        self.assert_core(ONE, f"(let-macro ((j () (() 0))) (let-macro ((k (j) {rules})) (k j)))")
        self.assert_core(TWO, f"(let-macro ((j () (() 0)) (k (j) {rules})) (let-macro ((j () (() 0))) (k j)))")
        self.assert_core(ONE, "(let-macro ((k (k) ((k) 1) ((other) 2))) (k k))")

    def test_an_inserted_symbol(self):
        forms = macro("((else) 1) ((other) 2)", "else")
        self.assert_core(ONE, "(j)", f"{forms} (macro j () (() (k else)))")
        self.assert_core(TWO, "(j)", f"{forms} (macro j () (() (k other)))")
        self.assert_core(fn([0], TWO), "(j)", f"{forms} (macro j () (() (fn (else) (k else))))")
        self.assert_core(fn([0], ONE), "(j else)", f"{forms} (macro j () ((a) (fn (else) (k a))))")
        self.assert_core(fn([0], TWO), "(fn (else) (j else))", f"{forms} (macro j () ((a) (k a)))")
        self.assert_core(fn([0], ONE), "(fn (else) (j))", f"{forms} (macro j () (() (k else)))")

    def test_an_inserted_literal(self):
        forms = "(macro j () ((a) (let-macro ((k (else) ((else) 1) ((other) 2))) (k a))))"
        self.assert_core(ONE, "(j else)", forms)
        self.assert_core(TWO, "(j or)", forms)
        forms = "(macro j () ((a) (let-macro ((k (a) ((else) 1) ((a) 2))) (k else))))"
        self.assert_core(ONE, "(j or)", forms)
        forms = "(macro j () ((a b) (let-macro ((k (a) ((a) 1) ((other) 2))) (k b))))"
        self.assert_core(ONE, "(j else else)", forms)
        self.assert_core(TWO, "(j else or)", forms)
        self.assert_core(ONE, "(j + +)", forms)

    def test_the_same_word_without_a_meaning_in_two_modules(self):
        other = unit_of("(module o) (export k) (macro k (else) ((else) 1) ((other) 2))")
        between = unit_of("(module p) (import o k) (export j) (macro j () (() (k else)) ((a) (k a)))", other)
        self.assert_core(op("+", ONE, ONE), "(+ (j) (j else))", "(import p j)", other, between)
        self.assert_core(op("+", ONE, TWO), "(+ (j) (j else))", "(import p j) (define else 1)", other, between)

    def test_a_literal_is_inserted_like_other_symbols(self):
        self.assert_core(op("+", ONE, TWO), "(k + 1 2)", macro("((+ a b) (+ a b))", "+"))
        self.assert_core_error(UnknownName, "(k else)", macro("((else) else)", "else"), name="else")

    def test_a_literal_that_is_inserted_is_a_new_name(self):
        forms = macro("((x a) (fn (x) a)) ((a b) (fn (a) b))", "x")
        self.assert_core_error(UnknownName, "(k x x)", forms, name="x")
        self.assert_core(fn([0], glo("x")), "(k x x)", forms + "(define x 1)")
        self.assert_core(fn([0], fn([1], loc(0))), "(fn (x) (let-macro ((j (x) ((x a) (fn (x) a)))) (j x x)))")
        other = unit_of("(module o) (export k x) (macro x () (() 1)) (macro k (x) ((x) (+ x)))")
        self.assert_core_error(MisusedName, "(k y)", "(import o k (x y))", other, name="x")

    def test_a_literal_is_no_repeated_variable(self):
        self.assert_core(op("+", ONE, TWO), "(k + + +)", macro("((+ ...) (+ 1 2))", "+"))
        self.assert_core(op("+", ONE, TWO), "(k)", macro("((+ ...) (+ 1 2))", "+"))
        forms = macro("(((a ...) (+ ...)) (- (+ a) ... +))", "+")
        for second in ["()", "(+)", "(+ + + +)"]:
            self.assert_core(op("-", op("+", ONE), op("+", TWO), prim("+")), f"(k (1 2) {second})", forms)

    def test_a_literal_twice(self):
        self.assert_core(ONE, "(k else else)", macro("((else else) 1)", "else else"))


class TemplateTest(FoldCase):
    def test_a_variable_more_than_once_or_not_at_all(self):
        self.assert_core(op("+", ONE, ONE, ONE), "(k 1 2)", macro("((a b) (+ a a a))"))

    def test_a_lone_variable(self):
        self.assert_core(op("+", ONE), "(k (+ 1))", macro("((a) a)"))

    def test_an_empty_list(self):
        self.assert_core(fn([], ONE), "(k)", macro("(() (fn () 1))"))

    def test_repeated_elements(self):
        forms = macro("(((n v) ...) (let ((n v) ...) (+ n ... (* n 2) ...)))")
        self.assert_core(let([(0, ONE), (1, TWO)], op("+", loc(0), loc(1), op("*", loc(0), TWO), op("*", loc(1), TWO))),
                         "(k (x 1) (y 2))", forms)
        self.assert_core(let([], op("+")), "(k)", forms)

    def test_the_shortest_list_counts(self):
        forms = macro("(((a ...) (b ...)) (+ (* a b) ... 0 (- b a a) ...))")
        self.assert_core(op("+", op("*", ONE, THREE), num(0), op("-", THREE, ONE, ONE)), "(k (1 2) (3))", forms)
        self.assert_core(op("+", op("*", ONE, TWO), num(0), op("-", TWO, ONE, ONE)), "(k (1) (2 3 4))", forms)
        self.assert_core(op("+", num(0)), "(k () (1 2))", forms)
        self.assert_core(op("+", num(0)), "(k (1 2) ())", forms)

    def test_three_lists(self):
        forms = macro("(((a ...) (b ...) (c ...)) (+ (* a (- b c)) ... a ... c ...))")
        self.assert_core(op("+", op("*", ONE, op("-", THREE, FOUR)), ONE, TWO, FOUR, FIVE), "(k (1 2) (3) (4 5))",
                         forms)

    def test_a_lone_variable_in_a_repeated_element(self):
        forms = macro("((a b ...) (+ (* a b a) ...))")
        self.assert_core(op("+", op("*", ONE, TWO, ONE), op("*", ONE, THREE, ONE)), "(k 1 2 3)", forms)

    def test_a_repeated_list_within_lists(self):
        forms = macro("((a ...) (+ (* (- a) (- 1)) ... ((a ...) 2)))")
        self.assert_core(op("+", op("*", op("-", ONE), op("-", ONE)), op("*", op("-", TWO), op("-", ONE)),
                            call(call(ONE, TWO), TWO)), "(k 1 2)", forms)

    def test_inserted_names_of_all_copies_are_the_same(self):
        self.assert_core(fn([0], op("+", op("*", loc(0), ONE), op("*", loc(0), TWO))), "(k 1 2)",
                         macro("((a ...) (fn (t) (+ (* t a) ...)))"))
        self.assert_core_error(DuplicateName, "(k 1 2)", macro("((a ...) (let ((t a) ...) t))"), name="t")
        self.assert_core(let([(0, ONE)], loc(0)), "(k 1)", macro("((a ...) (let ((t a) ...) t))"))


class NewNameTest(FoldCase):
    """Points 3.4 and 3.5."""

    SWAP = "(macro k () ((a b) (let ((t a)) (pair b t))))"

    def test_an_inserted_variable_does_not_catch_the_data(self):
        expected = fn([0], let([(1, ONE)], op("pair", loc(0), loc(1))))
        for word in ["t", "a", "b", "x", "pair", "let", "it"]:
            self.assert_core(expected, f"(fn ({word}) (k 1 {word}))", self.SWAP)

    def test_an_inserted_symbol_is_not_caught_by_the_call(self):
        for word in ["one", "*", "x"]:
            expected = fn([0], op("*", glo("one"), loc(0)))
            self.assert_core(expected, f"(fn ({word}) (k {word}))", macro("((a) (* one a))") + "(define one 1)")

    def test_names_of_two_calls_are_different(self):
        forms = "(macro k () ((a) (fn (t) (a t))))"
        self.assert_core(fn([0], call(fn([1], call(num(5), loc(1))), loc(0))), "(k (k 5))", forms)
        self.assert_core(fn([0], fn([1], op("+", loc(0), loc(1)))), "(k)",
                         "(macro k () (() (fn (t) (k t))) ((a) (fn (t) (+ a t))))")
        self.assert_core(fn([0, 1], op("-", loc(0), loc(1))), "(k)",
                         "(macro k () (() (k t)) ((a) (fn (a t) (- a t))))")

    def test_names_of_the_same_spelling_from_call_and_macro_in_one_form(self):
        self.assert_core(fn([0, 1], op("+", loc(0), loc(1))), "(k t t)",
                         macro("((n a) (fn (n t) (+ a t)))"))
        self.assert_core(let([(0, ONE), (1, TWO)], loc(1)), "(k t)", macro("((n) (let ((t 1) (n 2)) n))"))

    def test_an_inserted_name_without_a_meaning(self):
        self.assert_core_error(UnknownName, "(k)", macro("(() else)"), name="else")
        self.assert_core_error(UnknownName, "(fn (else) (k))", macro("(() else)"), name="else")
        other = unit_of("(module o) (export k) (macro k () (() x))")
        self.assert_core_error(UnknownName, "(k)", "(import o k) (define x 1)", other, name="x")

    def test_an_inserted_name_that_is_bound_has_this_binding_alone(self):
        self.assert_core(fn([0], glo("x")), "(k x)", macro("((a) (fn (x) a))") + "(define x 1)")
        self.assert_core(let([(0, glo("x"))], op("+", loc(0), glo("x"))), "(k x)",
                         macro("((a) (let ((x x)) (+ x a)))") + "(define x 1)")
        self.assert_core(op("+", ONE, glo("x")), "(k x)",
                         macro("((a) (let-macro ((x () (() 1))) (+ (x) a)))") + "(define x 1)")

    def test_a_binding_for_a_name_of_the_call(self):
        forms = macro("((n v b) (let ((n v)) b))")
        self.assert_core(let([(0, ONE)], op("+", loc(0), loc(0))), "(k x 1 (+ x x))", forms)
        self.assert_core(let([(0, glo("x"))], loc(0)), "(k x x x)", forms + "(define x 1)")
        self.assert_core(let([(0, ONE)], choose(loc(0), TWO, THREE)), "(k y 1 (if y 2 3))", forms)

    def test_a_definition_that_the_module_does_not_export(self):
        other = unit_of("(module o) (export k) (define hidden 1) (macro j () (() 2)) (macro k () (() (+ hidden (j))))")
        self.assert_core(op("+", glo("hidden", "o"), TWO), "(k)", "(import o k)", other)
        self.assert_core(op("+", glo("hidden", "o"), TWO), "(k)", "(import o k) (define hidden 5) (define j 6)", other)
        self.assert_core(fn([0], op("+", glo("hidden", "o"), TWO)), "(fn (hidden) (k))", "(import o k)", other)

    def test_a_name_that_another_module_imports(self):
        base = unit_of("(module b) (export x j) (define x 1) (define y 2) (macro j () (() y))")
        other = unit_of("(module o) (import b (x z) j) (export k) (macro k () (() (+ z (j))))", base)
        self.assert_core(op("+", glo("x", "b"), glo("y", "b")), "(k)", "(import o k)", base, other)

    def test_a_macro_that_calls_itself(self):
        forms = macro("(() 0) ((a b ...) (+ a (k b ...)))")
        self.assert_core(op("+", ONE, op("+", TWO, op("+", THREE, num(0)))), "(k 1 2 3)", forms)
        other = unit_of(f"(module o) (export k) {forms}")
        self.assert_core(op("+", ONE, num(0)), "(j 1)", "(import o (k j)) (define k 1)", other)

    def test_macros_that_call_one_another(self):
        forms = "(macro odd () (() 0) ((a b ...) (even b ...))) (macro even () (() 1) ((a b ...) (odd b ...)))"
        self.assert_core(ONE, "(even 5 5 5 5)", forms)
        self.assert_core(num(0), "(even 5 5 5)", forms)

    def test_a_macro_that_gets_a_macro(self):
        self.assert_core(op("+", ONE, ONE), "(k j)", "(macro j () ((a) (+ a a))) (macro k () ((f) (f 1)))")
        self.assert_core(op("+", ONE, ONE), "(k)", "(macro j () ((a) (+ a a))) (macro k () ((f) (f 1)) (() (k j)))")

    def test_a_macro_that_inserts_a_local_macro(self):
        forms = macro("((a) (let-macro ((j () ((b) (+ a b)))) (j 2)))")
        self.assert_core(op("+", ONE, TWO), "(k 1)", forms)
        self.assert_core(fn([0], op("+", loc(0), TWO)), "(fn (b) (k b))", forms)
        self.assert_core(fn([0], op("+", loc(0), TWO)), "(fn (j) (k j))", forms)

    def test_an_inserted_local_macro_does_not_catch_the_data(self):
        forms = macro("((a) (let-macro ((j () (() 1))) a))") + "(macro j () (() 2))"
        self.assert_core(TWO, "(k (j))", forms)

    def test_a_local_macro_with_a_name_of_the_call(self):
        forms = macro("((n a) (let-macro ((n () (() 1))) a))")
        self.assert_core(ONE, "(k j (j))", forms)
        self.assert_core(ONE, "(k if (if))", forms)

    def test_a_macro_that_writes_the_rules_of_another_one(self):
        forms = macro("((n p t a) (let-macro ((n () (p t))) a))")
        self.assert_core(op("-", TWO, ONE), "(k j (x y) (- y x) (j 1 2))", forms)
        self.assert_core(op("+", ONE, TWO, THREE), "(k j (x ...) (+ x ...) (j 1 2 3))", forms)

    def test_local_variables_of_different_copies_of_the_data(self):
        forms = macro("((a) (+ a a))")
        self.assert_core(op("+", fn([0], loc(0)), fn([1], loc(1))), "(k (fn (x) x))", forms)

    def test_a_local_macro_means_the_variables_around_its_definition(self):
        expression = "(fn (x) (let-macro ((j () (() x))) (fn (x) (+ x (j)))))"
        self.assert_core(fn([0], fn([1], op("+", loc(1), loc(0)))), expression)
        expression = "(fn (x) (let-macro ((j () ((a) (let ((y x)) (+ a y))))) (fn (y) (j y))))"
        self.assert_core(fn([0], fn([1], let([(2, loc(0))], op("+", loc(1), loc(2))))), expression)

    def test_an_inserted_macro_means_the_inserted_variables_around_it(self):
        forms = macro("(() (let ((t 1)) (let-macro ((j () (() t))) (let ((t 2)) (j)))))")
        self.assert_core(let([(0, ONE)], let([(1, TWO)], loc(0))), "(k)", forms)
        forms = macro("((x) (let ((t 1)) (let-macro ((j () (() (+ t x)))) (let ((t 2)) (let ((x 3)) (j))))))")
        expected = let([(1, ONE)], let([(2, TWO)], let([(3, THREE)], op("+", loc(1), loc(0)))))
        self.assert_core(fn([0], expected), "(fn (t) (k t))", forms)

    def test_rules_that_one_call_inserts_share_its_names(self):
        forms = macro("(() (let-macro ((j () ((t) (let ((u t)) (+ t u))))) (let ((u 7)) (j u))))")
        self.assert_core(let([(0, num(7))], let([(1, loc(0))], op("+", loc(0), loc(1)))), "(k)", forms)
        forms = macro("((n) (let-macro ((j () ((n x) (- n x)))) (j 1 2)))")
        self.assert_core(op("-", ONE, TWO), "(k x)", forms)
        self.assert_core(op("-", ONE, TWO), "(k j)", forms)

    def test_the_same_call_with_other_names_gives_the_same_tree(self):
        template = "(let (({0} {1})) (let-macro (({2} () (({3}) (+ {0} {3})))) ({2} {4})))"
        seen = []
        for names in ["t a j p b", "x y z u v", "b a t j p", "if a fn first b", "it y m k v", "a b p t j"]:
            t, a, j, p, b = names.split()
            forms = macro(f"(({a} {b}) {template.format(t, a, j, p, b)})")
            seen.append(unit_of(f"(module m) {forms} (define it (fn (x y) (k (* x y) x)))").definitions)
        expected = fn([0, 1], let([(2, op("*", loc(0), loc(1)))], op("+", loc(2), loc(0))))
        for definitions in seen:
            self.assertEqual(definitions, [("it", expected)])
