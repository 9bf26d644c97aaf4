"""Points 2.1 and 2.2, and the hiding of point 8.10: meanings of names."""

from aliasfold.errors import DuplicateName, InvalidForm, MisusedName, UnknownName
from tests.programs import ONE, TWO, WORDS, call, choose, fn, glo, let, loc, num, op, prim
from tests.support import FoldCase, unit_of

SPECIAL = ["fn", "let", "if", "let-macro"]


class MeaningTest(FoldCase):
    def test_each_primitive(self):
        for word in WORDS:
            self.assert_core(prim(word), word)

    def test_each_special_form(self):
        self.assert_core(fn([0], loc(0)), "(fn (x) x)")
        self.assert_core(let([(0, ONE)], loc(0)), "(let ((x 1)) x)")
        self.assert_core(choose(ONE, TWO, num(3)), "(if 1 2 3)")
        self.assert_core(ONE, "(let-macro ((m () (() 1))) (m))")

    def test_a_special_form_is_no_value(self):
        for word in SPECIAL:
            self.assert_core_error(MisusedName, word, name=word)

    def test_a_definition(self):
        self.assert_core(glo("one"), "one", "(define one 1)")
        self.assert_core(glo("it"), "it")

    def test_a_definition_further_down(self):
        unit = unit_of("(module m) (define a b) (define b a)")
        self.assertEqual(unit.definitions, [("a", glo("b")), ("b", glo("a"))])

    def test_a_macro_of_the_module(self):
        self.assert_core(ONE, "(k)", "(macro k () (() 1))")
        self.assert_core_error(MisusedName, "k", "(macro k () (() 1))", name="k")

    def test_a_local_macro(self):
        self.assert_core(ONE, "(let-macro ((k () (() 1))) (k))")
        self.assert_core_error(MisusedName, "(let-macro ((k () (() 1))) k)", name="k")

    def test_no_meaning(self):
        for word in ["x", "module", "define", "macro", "import", "export", "else", "=="]:
            self.assert_core_error(UnknownName, word, name=word)

    def test_the_innermost_binding_holds(self):
        self.assert_core(fn([0], fn([1], loc(1))), "(fn (x) (fn (x) x))")
        self.assert_core(let([(0, ONE)], let([(1, loc(0))], loc(1))), "(let ((x 1)) (let ((x x)) x))")
        self.assert_core(fn([0], ONE), "(fn (x) (let-macro ((x () (() 1))) (x)))")
        self.assert_core(fn([0], call(loc(0))), "(let-macro ((x () (() 1))) (fn (x) (x)))")

    def test_a_binding_ends_with_its_form(self):
        self.assert_core(call(fn([0], loc(0)), glo("x")), "((fn (x) x) x)", "(define x 1)")
        self.assert_core(op("+", let([(0, ONE)], loc(0)), glo("x")), "(+ (let ((x 1)) x) x)", "(define x 1)")
        self.assert_core(op("+", ONE, TWO), "(+ (let-macro ((k () (() 1))) (k)) (k))", "(macro k () (() 2))")


class HidingTest(FoldCase):
    """No word is reserved."""

    def test_a_parameter(self):
        self.assert_core(fn([0], call(loc(0), ONE, TWO, num(3))), "(fn (if) (if 1 2 3))")
        self.assert_core(fn([0], call(loc(0), ONE, TWO)), "(fn (+) (+ 1 2))")
        self.assert_core(fn([0], call(loc(0), num(5))), "(fn (fn) (fn 5))")
        self.assert_core(fn([0, 1], call(loc(0), loc(1))), "(fn (let let-macro) (let let-macro))")

    def test_a_name_of_a_let(self):
        self.assert_core(let([(0, prim("-"))], call(loc(0), ONE, TWO)), "(let ((+ -)) (+ 1 2))")
        self.assert_core(let([(0, ONE)], loc(0)), "(let ((if 1)) if)")
        self.assert_core(let([(0, ONE)], call(loc(0))), "(let ((let 1)) (let))")
        self.assert_core(let([(0, prim("+")), (1, prim("first"))], op("*", loc(0), loc(1))),
                         "(let ((first +) (+ first)) (* first +))")

    def test_a_local_macro(self):
        self.assert_core(op("-", ONE, TWO), "(let-macro ((+ () ((a b) (- a b)))) (+ 1 2))")
        self.assert_core(TWO, "(let-macro ((if () ((a b c) b))) (if 1 2 3))")
        self.assert_core(num(3), "(let-macro ((let-macro () ((a b) b)) (let () ((a b) a))) (let-macro 2 (let 3 4)))")

    def test_a_definition(self):
        for word in SPECIAL:
            self.assert_core(call(glo(word), ONE), f"({word} 1)", f"(define {word} 0)")
            self.assert_core(glo(word), word, f"(define {word} 0)")
        for word in WORDS:
            self.assert_core(call(glo(word), ONE, TWO), f"({word} 1 2)", f"(define {word} 0)")

    def test_a_macro_of_the_module(self):
        for word in SPECIAL + WORDS:
            self.assert_core(TWO, f"({word} 1 2)", f"(macro {word} () ((a b) b))")
            self.assert_core_error(MisusedName, word, f"(macro {word} () ((a b) b))", name=word)

    def test_an_imported_name(self):
        other = unit_of("(module o) (export x k) (define x 0) (macro k () ((a b) b))")
        for word in SPECIAL + WORDS:
            self.assert_core(call(glo("x", "o"), ONE, TWO), f"({word} 1 2)", f"(import o (x {word}))", other)
            self.assert_core(TWO, f"({word} 1 2)", f"(import o (k {word}))", other)

    def test_the_words_of_the_forms_of_a_module(self):
        words = ["module", "import", "export", "define", "macro"]
        forms = " ".join(f"(define {word} 1)" for word in words)
        self.assert_core(call(*[glo(word) for word in words]), f"({' '.join(words)})", forms)
        unit = unit_of("(module define) (define define 1) (export define)")
        self.assertEqual(unit.exports, {"define": ("global", "define", "define")})

    def test_a_name_hides_in_the_whole_module(self):
        unit = unit_of("(module m) (define f (if 1 2 3)) (define if 1)")
        self.assertEqual(unit.definitions[0], ("f", call(glo("if"), ONE, TWO, num(3))))

    def test_dots_cannot_be_bound(self):
        for expression in ["(fn (...) 1)", "(let ((... 1)) 1)"]:
            self.assert_core_error(InvalidForm, expression)
        self.assert_core_error(UnknownName, "...", name="...")
        self.assert_core_error(UnknownName, "(... 1)", name="...")


class HiddenInModulesTest(FoldCase):
    """Words that a macro inserts mean what they mean in its own module (point 8.10)."""

    FORMS = "(macro k () ((a b) (if (+ a b) (let ((t a)) (fn (x) t)) (let-macro ((j () (() b))) (j)))))"
    HIDING = "(define if 0) (define + 0) (define let 0) (define fn 0) (define let-macro 0)"
    EXPECTED = choose(op("+", ONE, TWO), let([(0, ONE)], fn([1], loc(0))), TWO)

    def test_the_calling_module_hides_them(self):
        other = unit_of(f"(module o) (export k) {self.FORMS}")
        self.assert_core(self.EXPECTED, "(k 1 2)", f"(import o k) {self.HIDING}", other)

    def test_the_calling_form_hides_them(self):
        self.assert_core(fn([0, 1], op("+", loc(1), loc(0))), "(fn (+ fn) (k fn +))", "(macro k () ((a b) (+ a b)))")
        self.assert_core(let([(0, ONE)], choose(loc(0), TWO, num(3))), "(let ((if 1)) (k if 2 3))",
                         "(macro k () ((a b c) (if a b c)))")
        self.assert_core(ONE, "(let-macro ((fn () (() 2)) (let-macro () (() 3))) (k 1))",
                         "(macro k () ((a) (let-macro ((j () (() a))) (j))))")

    def test_the_module_of_the_macro_hides_them(self):
        other = unit_of("(module o) (export k) (define + 0) (define if 0) (macro k () ((a b) (if (+ a b) b)))")
        expected = call(glo("if", "o"), call(glo("+", "o"), ONE, TWO), TWO)
        self.assert_core(expected, "(k 1 2)", "(import o k)", other)
        self.assert_core(choose(expected, ONE, op("+", ONE, TWO)), "(if (k 1 2) 1 (+ 1 2))", "(import o k)", other)

    def test_both_modules_hide_them(self):
        other = unit_of("(module o) (export k) (define + 0) (macro k () ((a b) (+ a b)))")
        self.assert_core(call(glo("+"), call(glo("+", "o"), ONE, TWO), TWO), "(+ (k 1 2) 2)",
                         "(import o k) (define + 0)", other)

    def test_a_macro_hides_a_word_by_a_macro(self):
        other = unit_of("(module o) (export k) (macro if () ((a b c) c)) (macro k () ((a) (if 1 2 a)))")
        self.assert_core(choose(num(7), ONE, TWO), "(if (k 7) 1 2)", "(import o k)", other)

    def test_the_data_of_a_call_keep_their_words(self):
        other = unit_of("(module o) (export k) (define + 0) (macro k () ((a) (let ((if 1)) a)))")
        self.assert_core(let([(0, ONE)], choose(op("+", ONE, TWO), ONE, TWO)), "(k (if (+ 1 2) 1 2))",
                         "(import o k)", other)

    def test_a_name_of_a_form_twice(self):
        self.assert_core_error(DuplicateName, "(fn (if if) 1)", name="if")


class ScopeTest(FoldCase):
    def test_the_scope_of_a_macro_has_all_words_and_names(self):
        other = unit_of("(module o) (export x) (define x 1)")
        unit = unit_of("(module m) (import o (x y)) (define z 1) (macro k () (() 1)) (define first 2)", other)
        expected = {word: ("special", word) for word in SPECIAL}
        expected |= {word: ("prim", word) for word in WORDS}
        expected |= {"y": ("global", "o", "x"), "z": ("global", "m", "z"), "k": ("macro", "m", "k")}
        expected |= {"first": ("global", "m", "first")}
        self.assertEqual(unit.macros["k"], ([], [([], 1)], expected))

    def test_each_macro_has_a_scope_of_its_own(self):
        macros = unit_of("(module m) (macro k () (() 1)) (macro j () (() 1))").macros
        self.assertEqual(macros["k"], macros["j"])
        self.assertIsNot(macros["k"][2], macros["j"][2])

    def test_the_words_do_not_become_names_of_the_module(self):
        unit = unit_of("(module m) (define x 1)")
        self.assertEqual(unit.exports, {})
        for word in SPECIAL + WORDS:
            self.assert_error(UnknownName, unit_of, f"(module m) (export {word})", name=word)
