"""Point 4.5: what the expansion of one module may do at most."""

import unittest

from aliasfold.core import well_formed
from aliasfold.errors import NoMatchingRule, OutOfFuel, TooDeep, TooLarge, UnknownName
from tests.programs import ONE, add, call, choose, fn, let, loc, num, op
from tests.support import FoldCase, core_of, unit_of


def ones(many):
    return " ".join(["1"] * many)


def calls(word, many):
    return " ".join([f"({word})"] * many)


class CallTest(FoldCase):
    FORMS = "(macro k () (() 1) ((1) (k)) ((a b ...) (k b ...)))"

    def test_calls_side_by_side(self):
        self.assert_core(op("+", *[ONE] * 300), f"(+ {calls('k', 300)})", self.FORMS)
        self.assert_core_error(OutOfFuel, f"(+ {calls('k', 301)})", self.FORMS, name="k")

    def test_calls_that_become_calls(self):
        self.assert_core(ONE, f"(k {ones(299)})", self.FORMS)
        self.assert_core_error(OutOfFuel, f"(k {ones(300)})", self.FORMS, name="k")

    def test_an_endless_macro(self):
        self.assert_core_error(OutOfFuel, "(loop)", "(macro loop () (() (loop)))", name="loop")
        self.assert_core_error(OutOfFuel, "(ping)", "(macro ping () (() (pong))) (macro pong () (() (ping)))",
                               name="ping")
        self.assert_core_error(OutOfFuel, "(let-macro ((loop () ((a) (loop (a))))) (loop 1))", name="loop")

    def test_the_name_is_that_of_the_next_call(self):
        forms = self.FORMS + "(macro j () (() 1))"
        self.assert_core_error(OutOfFuel, f"(+ {calls('k', 300)} (j) (k))", forms, name="j")
        self.assert_core_error(OutOfFuel, f"(+ {calls('k', 299)} (j) (k))", forms, name="k")
        other = unit_of(f"(module o) (export k) {self.FORMS}")
        self.assert_core_error(OutOfFuel, f"(+ {calls('other', 301)})", "(import o (k other))", other, name="other")
        self.assert_core_error(OutOfFuel, f"(k {ones(300)})", "(import o k)", other, name="k")

    def test_local_macros_count(self):
        text = "(let-macro ((j () (() 1))) (+ {}))"
        self.assert_core(op("+", *[ONE] * 300), text.format(calls("j", 150) + calls("k", 150)), self.FORMS)
        self.assert_core_error(OutOfFuel, text.format(calls("k", 150) + calls("j", 151)), self.FORMS, name="j")

    def test_a_call_counts_before_its_rules_are_tried(self):
        self.assert_core_error(OutOfFuel, f"(+ {calls('k', 300)} (k 2 3))", "(macro k () (() 1))", name="k")
        self.assert_core_error(NoMatchingRule, f"(+ {calls('k', 299)} (k 2 3))", "(macro k () (() 1))", name="k")

    def test_data_that_stand_nowhere_are_not_called(self):
        self.assert_core(ONE, f"(drop {calls('k', 400)})", self.FORMS + "(macro drop () ((a ...) 1))")

    def test_all_definitions_of_a_module_count_together(self):
        half = f"(define a (+ {calls('k', 150)}))"
        self.assertEqual(len(unit_of(f"(module m) {self.FORMS} {half} {half.replace('a', 'b', 1)}").definitions), 2)
        self.assert_error(OutOfFuel, unit_of, f"(module m) {self.FORMS} {half} (define b (+ {calls('k', 151)}))",
                          name="k")

    def test_each_module_counts_by_itself(self):
        other = unit_of(f"(module o) (export k) {self.FORMS} (define a (+ {calls('k', 300)}))")
        self.assert_core(op("+", *[ONE] * 300), f"(+ {calls('k', 300)})", "(import o k)", other)
        self.assert_core(op("+", *[ONE] * 300), f"(+ {calls('k', 300)})", "(import o k)", other)


class ExpressionTest(FoldCase):
    def test_integers_in_a_call(self):
        # The call, its first element, and the integers.
        self.assert_core(op("+", *[ONE] * 19998), f"(+ {ones(19998)})")
        self.assert_core_error(TooLarge, f"(+ {ones(19999)})")

    def test_each_expression_counts(self):
        # Each text is so many expressions.
        for text, many in [("1", 1), ("+", 1), ("(+)", 2), ("(+ 1)", 3), ("(fn (a b) a)", 2), ("(fn (a b) (a b))", 4),
                           ("(let ((a 1) (b 2)) a)", 4), ("(let () 1)", 2), ("(if 1 2 3)", 4), ("((fn () 1) 2)", 4),
                           ("(let-macro () 1)", 2), ("(let-macro ((j () ((a) (+ a)))) 1)", 2), ("((1))", 3)]:
            rest = 20000 - 2 - many
            self.assertEqual(len(core_of(f"(+ {text} {ones(rest)})")[2]), rest + 1, text)
            self.assert_core_error(TooLarge, f"(+ {text} {ones(rest + 1)})")

    def test_macro_calls_count_once(self):
        forms = "(macro k () (() 1) ((1) (k)) ((2 a) (+ 1 a)) ((3 a) a) ((4 a) 1))"
        for text, many in [("(k)", 1), ("(k 1)", 1), ("(k 2 1)", 4), ("(k 3 (+ 1))", 3), ("(k 4 (+ 1 1 1))", 1),
                           ("(k 3 (k 3 (k 1)))", 1), ("(k 2 (k))", 4), ("((k))", 2)]:
            rest = 20000 - 2 - many
            self.assertEqual(len(core_of(f"(+ {text} {ones(rest)})", forms)[2]), rest + 1, text)
            self.assert_core_error(TooLarge, f"(+ {text} {ones(rest + 1)})", forms)

    def test_the_next_expression_is_not_looked_at(self):
        self.assert_core_error(UnknownName, f"(+ {ones(19997)} x)", name="x")
        for text in ["x", "()", "if", "(k)", "(fn)"]:
            self.assert_core_error(TooLarge, f"(+ {ones(19998)} {text})")

    def test_all_definitions_of_a_module_count_together(self):
        half = f"(define a (+ {ones(9998)}))"
        self.assertEqual(len(unit_of(f"(module m) {half} {half.replace('a', 'b')}").definitions), 2)
        self.assert_error(TooLarge, unit_of, f"(module m) {half} {half.replace('a', 'b')} (define c 1)")
        self.assert_error(TooLarge, unit_of, f"(module m) {half} (define b (+ {ones(9999)}))")

    def test_each_module_counts_by_itself(self):
        other = unit_of(f"(module o) (define a (+ {ones(19998)}))")
        self.assert_core(op("+", *[ONE] * 19998), f"(+ {ones(19998)})", "(import o)", other)


class TranscribedTest(FoldCase):
    def spend(self, left):
        """A definition that leaves so many elements of transcribed templates, and a macro that drops a datum."""
        # The list of `drop` has two elements, and the list in it the data a hundred times.
        many, rest = divmod(50000 - left - 2, 100)
        template = f"(drop ({'a ... ' * 100} {ones(rest)}))"
        return f"(macro drop () ((a) 1)) (macro spend () ((a ...) {template})) (define spent (spend {ones(many)}))"

    def assert_transcribed(self, many, expression, forms):
        """An expression transcribes templates of so many elements."""
        self.assertTrue(core_of(expression, f"{self.spend(many)} {forms}"), expression)
        self.assert_core_error(TooLarge, expression, f"{self.spend(many - 1)} {forms}")

    def test_elements_of_all_lists_count(self):
        for template, many in [("(1)", 1), ("(+ 1 2)", 3), ("((1))", 2), ("(drop ())", 2), ("(drop (() () ()))", 5),
                               ("(drop (x y (z)))", 6), ("(fn (x) x)", 4), ("(let ((x 1)) x)", 6)]:
            self.assert_transcribed(many, "(k)", f"(macro k () (() {template}))")

    def test_a_variable_is_one_element_whatever_it_stands_for(self):
        for datum in ["1", "x", "()", "(1 2 3)", "((((1))))", "(+ (1 2) (3 4))"]:
            self.assert_transcribed(2, f"(k {datum})", "(macro k () ((a) (drop a)))")
            self.assert_transcribed(5, f"(k {datum})", "(macro k () ((a) (drop (a a a))))")

    def test_a_lone_variable_or_symbol_has_no_elements(self):
        self.assert_core(add(ONE, ONE), "(k (+ 1 1))", f"(macro k () ((a) a)) {self.spend(0)}")
        self.assert_core(ONE, "(k)", f"(macro k () (() 1)) {self.spend(0)}")
        self.assert_core(op("+"), "((k))", f"(macro k () (() +)) {self.spend(0)}")

    def test_copies_count(self):
        self.assert_transcribed(5, "(k 1 2 3)", "(macro k () ((a ...) (drop (a ...))))")
        self.assert_transcribed(11, "(k 1 2 3)", "(macro k () ((a ...) (drop ((a 1) ...))))")
        self.assert_transcribed(8, "(k (1 2 3) (4 5))", "(macro k () (((a ...) (b ...)) (drop ((a b) ...))))")
        self.assert_transcribed(2, "(k)", "(macro k () ((a ...) (drop ((a b c d) ...))))")

    def test_rules_and_forms_that_are_transcribed_count(self):
        # The form has three elements, its list has one, this macro three, its rule two, and the template one.
        template = "(let-macro ((j () (() (1)))) 1)"
        self.assert_transcribed(3 + 1 + 3 + 2 + 1, "(k)", f"(macro k () (() {template}))")

    def test_written_lists_do_not_count(self):
        self.assert_core(op("+", *[ONE] * 1000), f"(+ {ones(1000)})", self.spend(0))
        self.assert_core(ONE, f"(drop ({ones(1000)}))", self.spend(0))

    def test_all_definitions_and_local_macros_count_together(self):
        forms = f"{self.spend(4)} (macro k () ((a) (drop a)))"
        self.assert_core(add(ONE, ONE), "(+ (k 1) (let-macro ((j () (() (drop 1)))) (j)))", forms)
        self.assert_core_error(TooLarge, "(+ (k 1) (let-macro ((j () (() (drop (2))))) (j)))", forms)

    def test_each_module_counts_by_itself(self):
        other = unit_of(f"(module o) (export drop) {self.spend(0)}")
        self.assert_core(ONE, "(k 1)", "(import o drop) (macro k () ((a) (drop a)))", other)

    def test_data_that_grow_without_being_written(self):
        forms = "(macro grow () ((a) 1) ((a b c ...) (grow (a a) c ...)))"
        self.assert_core(ONE, f"(grow {ones(200)})", forms)
        forms = "(macro grow () ((a b ...) (grow a b ... b ...)))"
        self.assert_core_error(TooLarge, f"(grow {ones(2)})", forms)


class HeldTest(FoldCase):
    """The whole pattern is the first part that a call is held against."""

    FORMS = "(macro k () ((a ...) 1))"

    def spend(self, left):
        """Definitions that leave so many comparisons."""
        # Each rule holds the call, 500 further integers, and then the first one.
        rules = " ".join(["((7 b ...) 1)"] * 118)
        rest = 60000 - left - 119 * 502 - 1
        return (f"(macro spend () {rules} ((a b ...) 1)) (define spent (spend 8 {ones(500)}))"
                f" (macro rest () ((a ...) 1)) (define rested (rest {ones(rest)}))")

    def assert_held(self, many, expression, forms):
        """So many data of an expression are held against parts of patterns."""
        self.assertTrue(core_of(expression, f"{self.spend(many)} {forms}"), expression)
        self.assert_core_error(TooLarge, expression, f"{self.spend(many - 1)} {forms}")

    def test_further_elements(self):
        self.assert_core(ONE, f"(k {ones(59999)})", self.FORMS)
        self.assert_core_error(TooLarge, f"(k {ones(60000)})", self.FORMS)
        self.assert_core_error(TooLarge, f"(k {ones(61000)})", self.FORMS)

    def test_each_part_of_a_pattern(self):
        for rule, datum, many in [("()", "", 1), ("(a)", "1", 2), ("(a b c)", "1 2 3", 4), ("((a b))", "(1 2)", 4),
                                  ("((a (b)) c)", "(1 (2)) 3", 6), ("(7 else a)", "7 else 7", 4), ("(())", "()", 2),
                                  ("(a)", "(1 2 3)", 2), ("(())", "()", 2)]:
            self.assert_held(many, f"(k {datum})", f"(macro k (else) ({rule} 1))")

    def test_parts_ahead_of_dots(self):
        for rule, datum, many in [("(a ...)", "", 1), ("(a ...)", "1 2 3", 4), ("(a b ...)", "1", 2),
                                  ("(a b ...)", "1 2 3", 4), ("((a b) ...)", "(1 2) (3 4)", 7),
                                  ("((a ...) b ...)", "(1 2) 3", 5), ("(7 ...)", "7 7", 3),
                                  ("((a (b c)) ...)", "(1 (2 3)) (4 (5 6))", 11)]:
            self.assert_held(many, f"(k {datum})", f"(macro k () ({rule} 1))")

    def test_nothing_is_held_behind_what_does_not_match(self):
        for rule, datum, many in [("(7 a b)", "8 1 2", 2), ("(a 7 b)", "1 8 2", 3), ("((a b c) d)", "(1 2) 3", 2),
                                  ("((a b) d)", "1 3", 2), ("(else a)", "or 1", 2), ("((7 a) b)", "(8 1) 2", 3),
                                  ("(a)", "1 2", 1), ("(a b)", "1", 1), ("(a b c ...)", "1", 1),
                                  ("((a b ...) c)", "() 1", 2), ("()", "1", 1)]:
            # The rule that matches holds the call once against its pattern, and each element against its own part.
            more = 1 + len(_data_of(datum))
            self.assert_held(many + more, f"(k {datum})", f"(macro k (else) ({rule} 1) ((a ...) 2))")

    def test_further_elements_come_first(self):
        # The first of the further ones that does not match ends the rule, whatever stands ahead of them.
        for rule, datum, many in [("(a b 7 ...)", "1 2 8", 2), ("(9 b 7 ...)", "1 2 7", 3),
                                  ("(9 b 7 ...)", "1 2 8", 2), ("(9 b 7 ...)", "1 2 7 7 8 7", 4),
                                  ("(9 b 7 ...)", "1 2 7 7 7 7", 6), ("((9 b) (c d) ...)", "(1 2) (3 4) (5)", 5),
                                  ("((9 b) (c d) ...)", "(1 2) (3 4) (5 6)", 9)]:
            more = 1 + len(_data_of(datum))
            self.assert_held(many + more, f"(k {datum})", f"(macro k () ({rule} 1) ((a ...) 2))")

    def test_a_list_is_held_before_its_elements(self):
        for rule, datum, many in [("(((a b) c))", "((1) 2)", 3), ("((c (a b)))", "(1 (2))", 4),
                                  ("((a b) 7)", "(1) 8", 2), ("((a b) 7)", "(1 2) 8", 5)]:
            more = 1 + len(_data_of(datum))
            self.assert_held(many + more, f"(k {datum})", f"(macro k () ({rule} 1) ((a ...) 2))")

    def test_each_rule_and_each_call_counts(self):
        forms = "(macro k () ((1) 1) ((2) 2) ((3) 3))"
        self.assert_held(2, "(k 1)", forms)
        self.assert_held(4, "(k 2)", forms)
        self.assert_held(6, "(k 3)", forms)
        self.assert_held(12, "(+ (k 1) (k 2) (k 3))", forms)
        self.assert_core_error(NoMatchingRule, "(k 4)", f"{self.spend(6)} {forms}", name="k")
        self.assert_core_error(TooLarge, "(k 4)", f"{self.spend(5)} {forms}")

    def test_local_macros_and_inserted_calls_count(self):
        self.assert_held(5, "(let-macro ((j () ((a) (k a 1)))) (j 1))", "(macro k () ((a b) 1))")

    def test_a_large_datum_is_held_once(self):
        self.assert_held(2, f"(k ({ones(1000)}))", "(macro k () ((a) 1))")

    def test_a_pattern_of_many_further_lists(self):
        # The call, and a list with its three elements 14,999 times, and three more.
        forms = "(macro k () (((a b c) ...) 1) ((a ...) 2))"
        self.assert_core(ONE, f"(k {' '.join(['(1 2 3)'] * 14999)})", forms)
        self.assert_core_error(TooLarge, f"(k {' '.join(['(1 2 3)'] * 15000)})", forms)

    def test_all_definitions_of_a_module_count_together(self):
        text = f"(module m) {self.FORMS} (define a (k {ones(29999)})) (define b (k {ones(29999)}))"
        self.assertEqual(unit_of(text).definitions, [("a", ONE), ("b", ONE)])
        self.assert_error(TooLarge, unit_of, text + "(define c (k))")

    def test_each_module_counts_by_itself(self):
        other = unit_of(f"(module o) (export k) {self.FORMS} (define a (k {ones(59999)}))")
        self.assert_core(ONE, f"(k {ones(59999)})", "(import o k)", other)


def _data_of(text):
    """The data of a text on its first level."""
    found, depth, words = [], 0, text.replace("(", " ( ").replace(")", " ) ").split()
    for word in words:
        if depth == 0:
            found.append(word)
        depth += {"(": 1, ")": -1}.get(word, 0)
    return [word for word in found if word != ")"]


class DepthTest(FoldCase):
    """The macro `k` makes an expression two deeper by one more list of the text."""

    FORMS = "(macro k () ((a) (- (- a)))) (macro same () ((a) a))"

    def nest(self, many, inner):
        return "(k " * many + inner + ")" * many

    def test_sixty_expressions_deep(self):
        self.assertTrue(core_of(self.nest(29, "(- x)"), self.FORMS + "(define x 1)"))
        self.assertTrue(core_of(self.nest(29, "1"), self.FORMS))
        self.assert_core_error(TooDeep, self.nest(30, "1"), self.FORMS)
        self.assert_core_error(TooDeep, self.nest(29, "(- (- 1))"), self.FORMS)
        self.assert_core_error(TooDeep, self.nest(50, "1"), self.FORMS)

    def test_each_form_is_one_deeper(self):
        for text, depth in [("1", 1), ("(fn (x) 1)", 2), ("(fn (x) (x))", 3), ("(let ((x 1)) 1)", 2),
                            ("(let ((x (1))) 1)", 3), ("(if (1) 1 1)", 3), ("(if 1 (1) 1)", 3), ("(if 1 1 (1))", 3),
                            ("(let-macro () 1)", 2), ("(let-macro () (1))", 3), ("((1))", 3), ("(1 (1))", 3),
                            ("(1 1 (1))", 3), ("(let () (1))", 3), ("(let-macro ((j () (() (((1)))))) 1)", 2),
                            ("(same 1)", 1), ("(same (1))", 2), ("(same (same (same 1)))", 1),
                            ("(let-macro ((j () (() (1)))) (j))", 3)]:
            # The whole expression is one deep, and each `k` makes what is in it two deeper.
            even = (60 - depth) // 2
            rest = (60 - depth) % 2
            inner = f"({text})" if rest else text
            self.assertTrue(core_of(self.nest(even, inner), self.FORMS), text)
            self.assert_core_error(TooDeep, self.nest(even, f"({inner})"), self.FORMS)

    def test_a_tree_of_the_greatest_depth_is_well_formed(self):
        tree = core_of(self.nest(29, "(- 1)"), self.FORMS)
        self.assertTrue(well_formed(tree, []))
        forms = "(macro deep () ((a) (let ((x (fn (y) a))) x)))"
        for wrap in ["(let ((x 1)) {})", "(let ((x {})) x)", "(fn (x) {})", "(if 1 {} 1)", "(if {} 1 1)", "({})",
                     "(1 {})"]:
            text = "1"
            for _ in range(13):
                text = f"(deep {text})"
            for _ in range(30):
                text = f"(deep {text})" if text.count("(") < 29 else text
            self.assertTrue(well_formed(core_of(wrap.format(text), forms), []))

    def test_the_depth_is_checked_before_the_count(self):
        # The outer call and its first element, then 59 calls, each but the innermost one with its first element.
        inner = self.nest(29, "(- 1)")
        before = 2 + 59 + 58
        for many, cls in [(19999, TooDeep), (20000, TooDeep), (20001, TooLarge), (20002, TooLarge)]:
            self.assert_core_error(cls, f"(+ {ones(many - before)} {inner})", self.FORMS)

    def test_what_is_called_is_told_before_its_data(self):
        self.assert_core_error(TooDeep, self.nest(30, "x"), self.FORMS)
        self.assert_core_error(TooDeep, self.nest(30, "()"), self.FORMS)
        self.assert_core_error(UnknownName, self.nest(29, "x"), self.FORMS, name="x")

    def test_a_macro_that_deepens_without_end(self):
        self.assert_core_error(TooDeep, "(deep 1)", "(macro deep () ((a) (fn (x) (deep a))))")
        self.assert_core_error(TooDeep, "(deep 1)",
                               "(macro deep () ((a) (deep (deep (deep a) 1) 2)) ((a b) (- (deep a))))")

    def test_deep_data_that_stand_nowhere(self):
        forms = "(macro wrap () ((a) 1) ((a b c ...) (wrap ((((((((((a)))))))))) c ...)))"
        self.assert_core(ONE, f"(wrap {ones(200)})", forms)

    def test_written_expressions_never_lie_too_deep(self):
        for before, behind in [("(- ", ")"), ("(if 1 2 ", ")"), ("(", ")"), ("(let () ", ")"), ("(let-macro () ", ")")]:
            many = 59 if "()" not in before else 58
            self.assertTrue(core_of(before * many + "1" + behind * many))


class LongTest(unittest.TestCase):
    """Inputs somewhat beyond the limits come to their error."""

    def test_many_definitions_and_macros(self):
        forms = " ".join(f"(macro k{k} () ((a) (+ a {k}))) (define d{k} (k{k} d{k}))" for k in range(300))
        unit = unit_of(f"(module m) {forms}")
        self.assertEqual(len(unit.macros), 300)
        self.assertEqual(unit.definitions[299], ("d299", add(("global", "m", "d299"), num(299))))

    def test_many_rules(self):
        rules = " ".join(f"(({k}) {k + 1})" for k in range(5000))
        self.assertEqual(core_of("(k 4999)", f"(macro k () {rules})"), num(5000))

    def test_many_literals(self):
        names = " ".join(f"a{k}" for k in range(5000))
        self.assertEqual(core_of("(k a4999)", f"(macro k ({names}) ((a4999) 1) ((b) 2))"), ONE)

    def test_many_names_in_many_forms(self):
        names = " ".join(f"a{k}" for k in range(2000))
        inner = " ".join(["(fn (x) (let ((y x)) a0))"] * 1000)
        tree = core_of(f"(fn ({names}) (+ {inner}))")
        last = fn([2000 + 1998], let([(2000 + 1999, loc(2000 + 1998))], loc(0)))
        self.assertEqual(tree[2][2][999], last)

    def test_names_that_are_inserted_again_and_again(self):
        forms = "(macro k () ((a) a) ((a b c ...) (k (if a t 1) c ...)))"
        self.assertEqual(core_of("(k 1)", forms), ONE)
        forms = "(macro k () ((f) (f)) ((f b c ...) (let-macro ((g () (() (f)))) (k g c ...))))"
        self.assertEqual(core_of(f"(let-macro ((one () (() 1))) (k one {ones(50)}))", forms), ONE)
        self.assertEqual(core_of("(let-macro ((one () (() (if 1 2 3)))) (k one))", forms), choose(ONE, num(2), num(3)))
        self.assertEqual(core_of("((fn () 1))"), call(fn([], ONE)))
