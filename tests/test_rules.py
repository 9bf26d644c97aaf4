"""Point 3.6: malformed macros."""

import copy

from aliasfold.errors import DuplicateName, InvalidRule, TooDeep, TooLarge
from aliasfold.modules import imported_modules
from aliasfold.reader import parse_all
from tests.programs import ONE, THREE, TWO, num, op
from tests.support import FoldCase, core_of, unit_of

# What stands behind the word `macro`, or in the list of a let-macro.
FAULTS = {
    "the name is no symbol": ["5 () (() 1)", "(k) () (() 1)", "() () (() 1)"],
    "the name is dots": ["... () (() 1)"],
    "the literals are no list": ["k 5 (() 1)", "k else (() 1)", "k ... (() 1)"],
    "the literals are not symbols": ["k (5) (() 1)", "k (else 5) (() 1)", "k ((a)) (() 1)", "k (()) (() 1)"],
    "a literal is dots": ["k (...) (() 1)", "k (else ...) (() 1)"],
    "no rule": ["k ()", "k (else)", "k", ""],
    "a rule is no list": ["k () 5", "k () x", "k () ...", "k () (() 1) 5"],
    "a rule is not a list of two": ["k () ()", "k () (())", "k () (() 1 2)", "k () (() 1) (())"],
    "a pattern is no list": ["k () (1 2)", "k () (a 1)", "k () (... 1)", "k (a) (a 1)", "k () (() 1) (a 1)"],
    "dots in a pattern": ["k () ((...) 1)", "k () ((... a) 1)", "k () ((a ... b) 1)", "k () ((a ... ...) 1)",
                          "k () ((... ...) 1)", "k () (((...)) 1)", "k () (((a ... b)) 1)", "k () ((a ... b ...) 1)",
                          "k () (((...) ...) 1)", "k () ((a ... ... ...) 1)"],
    "dots in a template": ["k () (() ...)", "k () ((a ...) ...)", "k () ((a ...) (...))", "k () ((a ...) (... a))",
                           "k () ((a ...) (a ... ...))", "k () ((a ...) (+ (... a) 1))", "k () (() (+ ...) 1)",
                           "k () ((a ...) (... a ...))", "k () ((a ...) (... ...))"],
    "a repeated element in another one of a pattern": ["k () (((a ...) ...) 1)", "k () ((((a b ...)) ...) 1)",
                                                       "k () (((1 ...) ...) 1)"],
    "a repeated element in another one of a template": ["k () ((a ...) ((a ...) ...))",
                                                        "k () ((a ...) ((+ (a ...)) ...))",
                                                        "k () ((a ... ) ((+ (a ...) a) ...))"],
    "a repeated element without a repeated variable": ["k () (() (1 ...))", "k () ((a) (a ...))", "k () ((a) (b ...))",
                                                       "k () ((a ...) (() ...))", "k () ((a ...) (+ a ... 1 ...))",
                                                       "k (a) ((a ...) (a ...))", "k () ((a b ...) ((a) ... b ...))"],
    "a repeated variable outside of a repeated element": ["k () ((a ...) a)", "k () ((a ...) (+ a))",
                                                          "k () ((a ...) (+ a ... a))",
                                                          "k () (((a b) ...) (+ a ... b))",
                                                          "k () ((a ...) (+ (- a) a ...))"],
}

GOOD = ["k () (() 1)", "k (else or) ((else) 1) ((a ...) (+ a ...))", "k () ((a (b c ...)) (a b c ... c ... 1))",
        "k () ((a ...) (+ (a 1) ...))", "k () ((a b ...) ((a b) ...))", "k (a) ((a ...) a)", "k (a a) ((a a b) b)",
        "k () (((a ...) (b ...)) (+ (a b) ... b ...))", "if () ((if) if)", "+ (k) ((k) k)", "k () ((1 ...) 1)",
        "k () ((a ...) 1)", "k () (((a ...) b ...) ((b) ... a ...))", "macro () (() macro)", "k (b) ((a) (b b b))"]


def local(macro):
    return f"(let-macro (({macro})) 1)"


def in_lists(inner, many):
    """A datum as a text, in a number of lists."""
    return "(" * many + str(inner) + ")" * many


class FaultTest(FoldCase):
    def assert_fault(self, cls, macro, **fields):
        """A macro is malformed, as one of a module and as a local one, though it is never called."""
        self.assert_error(cls, unit_of, f"(module m) (macro {macro})", **fields)
        self.assert_error(cls, unit_of, f"(module m) (define x 1) (macro {macro}) (macro good () (() 1))", **fields)
        self.assert_error(cls, imported_modules, parse_all(f"(module m) (macro {macro})"), **fields)
        self.assert_core_error(cls, local(macro), **fields)
        self.assert_core_error(cls, f"(let-macro ((good () (() 1)) ({macro})) (good))", **fields)

    def test_each_fault(self):
        for macros in FAULTS.values():
            for macro in macros:
                self.assert_fault(InvalidRule, macro)

    def test_no_fault(self):
        for macro in GOOD:
            self.assertEqual(core_of(local(macro)), ONE, macro)
            self.assertEqual(len(unit_of(f"(module m) (macro {macro})").macros), 1)

    def test_an_element_of_a_let_macro_that_is_no_list(self):
        for part in ["5", "k", "..."]:
            self.assert_core_error(InvalidRule, f"(let-macro ({part}) 1)")
            self.assert_core_error(InvalidRule, f"(let-macro ((k () (() 1)) {part}) 1)")

    def test_a_variable_twice(self):
        for macro in ["k () ((a a) 1)", "k () ((a (b a)) 1)", "k () ((a b a ...) 1)", "k () (((a a) ...) 1)",
                      "k () (((a ...) a) 1)", "k () (() 1) ((a a) 1)", "k (b) ((b a a b) 1)"]:
            self.assert_fault(DuplicateName, macro, name="a")

    def test_a_variable_twice_that_a_call_inserts(self):
        forms = "(macro k () (() (let-macro ((j () ((a a) 1))) 1)))"
        self.assert_core_error(DuplicateName, "(k)", forms, name="a")
        forms = "(macro k () ((n) (let-macro ((j () ((n n) 1))) 1)))"
        self.assert_core_error(DuplicateName, "(k b)", forms, name="b")
        forms = "(macro k () ((n) (let-macro ((j () ((a n) (- a n)))) (j 1 2))))"
        self.assert_core(op("-", ONE, TWO), "(k a)", forms)

    def test_a_malformed_macro_of_a_module_that_is_never_used(self):
        self.assert_error(InvalidRule, unit_of, "(module m) (macro k () (() ...)) (define x y)")

    def test_a_malformed_local_macro_in_a_template_that_is_never_used(self):
        unit = unit_of("(module m) (macro k () (() (let-macro ((j 5 6)) 1)))")
        self.assertEqual(unit.macros["k"][1], [([], ["let-macro", [["j", 5, 6]], 1])])
        self.assert_core_error(InvalidRule, "(k)", "(macro k () (() (let-macro ((j 5 6)) 1)))")


class BroughtTest(FoldCase):
    """Dots that a call brings into a rule count like written ones."""

    def test_dots_repeat(self):
        forms = "(macro k (x) ((d) (let-macro ((j () ((a d) (+ a d)))) (j 1 2 3))))"
        self.assert_core(op("+", ONE, TWO, THREE), "(k ...)", forms)
        self.assert_core(num(0), "(k x)", forms.replace("((d)", "((x) 0) ((d)"))

    def test_dots_at_a_wrong_place(self):
        forms = "(macro k () ((d) (let-macro ((j () ((d) 1))) 1)))"
        self.assert_core(ONE, "(k a)", forms)
        self.assert_core_error(InvalidRule, "(k ...)", forms)
        self.assert_core_error(InvalidRule, "(k ...)", "(macro k () ((d) (let-macro ((j () (() d))) 1)))")
        self.assert_core_error(InvalidRule, "(k ...)", "(macro k () ((d) (let-macro ((j () ((a d) a))) 1)))")

    def test_dots_as_a_name_or_a_literal(self):
        self.assert_core_error(InvalidRule, "(k ...)", "(macro k () ((d) (let-macro ((d () (() 1))) 1)))")
        self.assert_core_error(InvalidRule, "(k ...)", "(macro k () ((d) (let-macro ((j (d) (() 1))) 1)))")

    def test_a_whole_rule(self):
        forms = "(macro k () ((rule ...) (let-macro ((j () rule ...)) (j 1 2 3))))"
        self.assert_core(op("+", ONE, TWO, THREE), "(k ((a) a) ((a ...) (+ a ...)))", forms)
        self.assert_core_error(InvalidRule, "(k)", forms)
        self.assert_core_error(InvalidRule, "(k 5)", forms)
        self.assert_core_error(DuplicateName, "(k ((a a) 1))", forms, name="a")


def nested(leaf, many):
    """A datum in a number of lists."""
    return leaf if many == 0 else [nested(leaf, many - 1)]


class SizeTest(FoldCase):
    """Rules as data, which may be deeper than those of a text."""

    def assert_rule(self, cls, rule, *more):
        """What is raised, or None, for a macro of a module that has the rule, and others behind it."""
        data = [["module", "m"], ["macro", "k", [], rule, *more]]
        if cls is None:
            self.assertEqual(imported_modules(data), [])
        else:
            self.assert_error(cls, imported_modules, data)

    def test_a_rule_of_many_data(self):
        # The rule, its pattern and its template are three data.
        for part, each in [(1, 1), ("x", 1), ([], 1), (["x"], 2), ([[1]], 3), ([1, "y", []], 4)]:
            many, rest = divmod(497, each)
            self.assert_rule(None, [[], [part] * many + [1] * rest])
            self.assert_rule(TooLarge, [[], [part] * many + [1] * (rest + 1)])

    def test_a_pattern_of_many_data(self):
        names = [f"a{k}" for k in range(497)]
        self.assert_rule(None, [names, 1])
        self.assert_rule(TooLarge, [[*names, "b"], 1])
        self.assert_rule(None, [[*names[1:], "..."], 1])
        self.assert_rule(TooLarge, [[*names, "..."], 1])
        self.assert_rule(None, [["a", "..."], ["a", "..."] * 247 + [1]])
        self.assert_rule(TooLarge, [["a", "..."], ["a", "..."] * 247 + [1, 1]])

    def test_each_rule_has_its_own_size(self):
        rule = [[], [1] * 497]
        self.assert_rule(None, rule, rule, rule)
        self.assert_rule(TooLarge, rule, rule, [[], [1] * 498])

    def test_a_rule_of_deep_data(self):
        for leaf in [1, "a", []]:
            self.assert_rule(None, [[], nested(leaf, 59)])
            self.assert_rule(TooDeep, [[], nested(leaf, 60)])
            self.assert_rule(None, [nested(leaf, 59), 1])
            self.assert_rule(TooDeep, [nested(leaf, 60), 1])
            self.assert_rule(None, [[1, nested(leaf, 58)], 1], [[], [1, nested(leaf, 58)]])
            self.assert_rule(TooDeep, [[1, nested(leaf, 59)], 1])
            self.assert_rule(TooDeep, [[], 1], [[], [1, nested(leaf, 59)]])

    def test_rules_of_any_depth(self):
        deep = []
        for _ in range(100000):
            deep = [deep]
        self.assert_rule(TooDeep, [[], deep])
        self.assert_rule(TooDeep, deep)
        self.assert_rule(TooLarge, [[[1] * 500], deep])

    def test_the_size_is_told_ahead_of_other_faults_of_the_rule(self):
        for large in [[1] * 500, nested([1] * 500, 20)]:
            for rule in [large, [[], large, 1], [1, large], [["a", "a"], large], [["..."], large], [[], "...", large],
                         [["a", "..."], ["a", large]], [large, "..."], [["a", "a", large], 1]]:
                self.assert_rule(TooLarge, rule)
        for deep in [nested(1, 61), nested([], 61)]:
            for rule in [deep, [[], deep, 1], [1, deep], [["a", "a"], deep], [["..."], deep], [[], "...", deep],
                         [["a", "..."], ["a", deep]], [deep, "..."], [["a", "a", deep], 1]]:
                self.assert_rule(TooDeep, rule)

    def test_the_first_of_the_two_sizes_is_told(self):
        self.assert_rule(TooDeep, [[nested(1, 60)], [1] * 500])
        self.assert_rule(TooLarge, [[1] * 500, nested(1, 60)])
        self.assert_rule(TooDeep, [[], nested([1] * 500, 60)])
        # The datum in 61 lists has the rule, the pattern with its integers, and 60 lists ahead of it.
        self.assert_rule(TooDeep, [[1] * (499 - 2 - 60), nested(1, 60)])
        self.assert_rule(TooLarge, [[1] * (501 - 2 - 60), nested(1, 60)])

    def test_the_faults_of_an_earlier_rule_come_first(self):
        large = [[], [1] * 498]
        self.assert_rule(InvalidRule, 5, large)
        self.assert_rule(DuplicateName, [["a", "a"], 1], large)
        self.assert_rule(TooLarge, large, 5)
        self.assert_rule(TooLarge, large, [["a", "a"], 1])
        self.assert_rule(InvalidRule, [["..."], 1], [["a", "a"], 1])
        self.assert_rule(DuplicateName, [["a", "a"], 1], [["..."], 1])


class SizeInTextTest(FoldCase):
    """Rules of the texts of modules, and what macro calls make of them."""

    def large(self, many):
        """A rule of a number of data."""
        return f"(() (+{' 1' * (many - 4)}))"

    def test_a_rule_of_many_data(self):
        good, bad = self.large(500), self.large(501)
        self.assertEqual(len(unit_of(f"(module m) (macro k () {good} {good}) (macro j () {good})").macros), 2)
        self.assert_error(TooLarge, unit_of, f"(module m) (macro k () {bad})")
        self.assert_core(ONE, local(f"k () {good} {good}"))
        self.assert_core_error(TooLarge, local(f"k () {bad}"))
        self.assert_core_error(TooLarge, local(f"k () (() 1) {bad} (5 5)"))

    def test_a_rule_that_becomes_large_by_a_call(self):
        forms = "(macro k () ((a b ...) (let-macro ((j () (() (+ a a a b ...)))) 1)))"
        # The rule, its pattern, its template, `+`, and three lists with their elements.
        for each in [1, 100]:
            rest = 500 - 4 - 3 * (each + 1)
            self.assert_core(ONE, f"(k ({'1 ' * each}) {'1 ' * rest})", forms)
            self.assert_core_error(TooLarge, f"(k ({'1 ' * each}) {'1 ' * (rest + 1)})", forms)

    def test_a_rule_that_becomes_deep_by_a_call(self):
        # The data of the call lie in ten lists of the rule of `j`.
        forms = f"(macro k () ((a) (let-macro ((j () (() {in_lists('a', 9)}))) 1)))"
        for leaf in ["1", "x", "()", "1 2"]:
            self.assert_core(ONE, f"(k {in_lists(leaf, 50)})", forms)
            self.assert_core_error(TooDeep, f"(k {in_lists(leaf, 51)})", forms)
        forms = f"(macro k () ((a) (let-macro ((j () ({in_lists('a', 9)} 1))) 1)))"
        self.assert_core(ONE, f"(k {in_lists(1, 50)})", forms)
        self.assert_core_error(TooDeep, f"(k {in_lists(1, 51)})", forms)

    def test_data_that_calls_make_large_and_deep(self):
        # Each call doubles the data, or puts them into 50 more lists, before they come into a rule.
        forms = f"""
            (macro double () ((n a) (let-macro ((j () (() a))) 1)) ((n a b ...) (double n (a a) b ...)))
            (macro wrap () ((a) (let-macro ((j () (() a))) 1)) ((a b c ...) (wrap {in_lists('a', 50)} c ...)))
            """
        self.assert_core(ONE, "(wrap 1)", forms)
        self.assert_core_error(TooDeep, f"(wrap 1 {'1 ' * 200})", forms)
        forms = "(macro double () ((a) (let-macro ((j () (() a))) 1)) ((a b c ...) (double (a a) c ...)))"
        self.assert_core(ONE, f"(double 1 {'1 ' * 7})", forms)
        self.assert_core_error(TooLarge, f"(double 1 {'1 ' * 8})", forms)
        self.assert_core_error(TooDeep, f"(double 1 {'1 ' * 200})", forms)

    def test_the_faults_of_an_earlier_macro_come_first(self):
        large = self.large(501)
        self.assert_core_error(InvalidRule, f"(let-macro ((k () 5) (j () {large})) 1)")
        self.assert_core_error(TooLarge, f"(let-macro ((k () {large}) (j () 5)) 1)")
        self.assert_error(InvalidRule, unit_of, f"(module m) (macro k () 5) (macro j () {large})")
        self.assert_error(TooLarge, unit_of, f"(module m) (macro k () {large}) (macro j () 5)")


class ArgumentTest(FoldCase):
    def test_the_data_stay(self):
        for macro in [*GOOD, *[macro for macros in FAULTS.values() for macro in macros]]:
            data = parse_all(f"(module m) (macro {macro})")
            before = copy.deepcopy(data)
            try:
                imported_modules(data)
            except InvalidRule:
                pass
            self.assertEqual(data, before)
