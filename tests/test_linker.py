"""Points 8.9 and 8.10: linking, and programs that are read whole."""

import copy
import itertools
import random
import unittest

from aliasfold import linker
from aliasfold.code import compile_core
from aliasfold.errors import (
    DuplicateName, FoldError, InvalidForm, InvalidRule, InvalidWord, ModuleRing, OutOfFuel, TooDeep, UnexpectedEnd,
    UnknownModule, UnknownName,
)
from aliasfold.linker import compile_all, link, whole
from aliasfold.machine import run_code
from aliasfold.modules import compile_module
from aliasfold.plain import run_plain
from aliasfold.units import Unit, read_unit, write_unit
from tests.hygiene import POOL, Program, TooBig
from tests.programs import ONE, TWO, glo, num
from tests.support import FoldCase, fields_of


def bare(name, *imports):
    """A unit with one definition."""
    return Unit(name, list(imports), {}, {}, [(f"in-{name}", ONE)])


def order(units):
    """The names of the modules in the order of linking."""
    return "".join(module for module, _, _ in link(units))


def module(name, *imports):
    return f"(module {name}) {' '.join(f'(import {other})' for other in imports)} (define in-{name} 1)"


def outcome_of(definitions, module_name, name):
    """The outcome of a program that ends with one of its definitions, by both runs."""
    last = glo(name, module_name)
    plain, steps = run_plain(definitions, last, 10 ** 7)
    codes = [(module, word, compile_core(core)) for module, word, core in definitions]
    machine, machine_steps, _ = run_code(codes, compile_core(last), 10 ** 7)
    assert plain == machine, (plain, machine)
    assert machine_steps <= 3 * steps + len(definitions) + 1
    return plain


class InterfaceTest(unittest.TestCase):
    def test_functions_are_defined_in_the_file(self):
        for name in ["link", "compile_all", "whole"]:
            self.assertEqual(getattr(linker, name).__module__, "aliasfold.linker")

    def test_arguments_have_the_names_of_the_interface(self):
        self.assertEqual(link(units=[bare("m")]), [("m", "in-m", ONE)])
        self.assertEqual([unit.name for unit in compile_all(texts=["(module m)"])], ["m"])
        self.assertEqual(whole(texts=["(module m) (define x 1)"]), [("m", "x", ONE)])

    def test_kinds(self):
        definitions = link([bare("m")])
        self.assertIs(type(definitions), list)
        self.assertIs(type(definitions[0]), tuple)
        self.assertIs(type(compile_all([])), list)
        self.assertIs(type(compile_all(["(module m)"])[0]), Unit)
        self.assertIs(type(whole(["(module m)"])), list)


class OrderTest(FoldCase):
    def assert_order(self, expected, imports):
        """Modules with imports, a dict of strings, come in this order, wherever they stand."""
        units = [bare(name, *imports[name]) for name in imports]
        for mixed in itertools.islice(itertools.permutations(units), 130):
            self.assertEqual(order(mixed), expected)
        texts = [module(name, *imports[name]) for name in imports]
        for mixed in itertools.islice(itertools.permutations(texts), 30):
            self.assertEqual("".join(unit.name for unit in compile_all(mixed)), expected)
            self.assertEqual("".join(name for name, _, _ in whole(mixed)), expected)

    def test_no_modules(self):
        self.assertEqual(link([]), [])
        self.assertEqual(compile_all([]), [])
        self.assertEqual(whole([]), [])

    def test_modules_that_import_nothing(self):
        self.assert_order("abc", {"c": "", "a": "", "b": ""})
        self.assert_order("!BZab", {"b": "", "B": "", "a": "", "!": "", "Z": ""})

    def test_chains(self):
        self.assert_order("cba", {"a": "b", "b": "c", "c": ""})
        self.assert_order("abc", {"a": "", "b": "a", "c": "b"})
        self.assert_order("bca", {"a": "c", "b": "", "c": ""})

    def test_of_those_that_may_be_next_the_first_one_is(self):
        self.assert_order("bacd", {"a": "b", "b": "", "c": "", "d": ""})
        self.assert_order("cadb", {"a": "c", "b": "d", "c": "", "d": ""})
        self.assert_order("bdca", {"a": "c", "b": "", "c": "d", "d": "b"})
        self.assert_order("dcab", {"a": "c", "b": "c", "c": "d", "d": ""})
        self.assert_order("bcda", {"a": "bcd", "b": "", "c": "", "d": ""})
        self.assert_order("cebad", {"a": "b", "b": "e", "c": "", "d": "a", "e": ""})
        self.assert_order("abcde", {"e": "ad", "d": "bc", "c": "a", "b": "a", "a": ""})

    def test_names_of_several_letters(self):
        units = [bare("b"), bare("a-b"), bare("ab"), bare("a"), bare("B"), bare("a1", "b")]
        self.assertEqual([name for name, _, _ in link(units)], ["B", "a", "a-b", "ab", "b", "a1"])

    def test_random_graphs(self):
        for seed in range(200):
            chance = random.Random(seed)
            names = [f"{letter}{chance.randrange(10)}" for letter in "abcdefgh"]
            ranks = chance.sample(names, len(names))
            imports = {name: [other for other in ranks[:ranks.index(name)] if chance.random() < 0.3] for name in names}
            expected, left = [], sorted(names)
            while left:
                following = next(name for name in left if all(other in expected for other in imports[name]))
                expected.append(following)
                left.remove(following)
            chance.shuffle(names)
            definitions = link([bare(name, *imports[name]) for name in names])
            self.assertEqual([name for name, _, _ in definitions], expected)

    def test_many_modules(self):
        names = [f"m{at:04}" for at in range(3000)]
        chain = [bare(name, *names[at + 1:at + 3]) for at, name in enumerate(names)]
        self.assertEqual([name for name, _, _ in link(chain)], names[::-1])
        texts = [module(name, *names[at + 1:at + 2]) for at, name in enumerate(names[:400])]
        texts[-1] = module(names[399])
        self.assertEqual([name for name, _, _ in whole(texts)], names[:400][::-1])

    def test_definitions_keep_their_order(self):
        first = Unit("b", [], {}, {}, [("z", ONE), ("a", TWO)])
        second = Unit("a", ["b"], {}, {}, [("z", num(3)), ("a", num(4)), ("m", num(5))])
        expected = [("b", "z", ONE), ("b", "a", TWO), ("a", "z", num(3)), ("a", "a", num(4)), ("a", "m", num(5))]
        self.assertEqual(link([second, first]), expected)

    def test_a_module_without_definitions(self):
        self.assertEqual(link([Unit("a", [], {}, {}, []), bare("b", "a")]), [("b", "in-b", ONE)])


class ErrorTest(FoldCase):
    def test_two_units_with_one_name(self):
        self.assert_error(DuplicateName, link, [bare("a"), bare("b"), bare("a")], name="a")
        self.assert_error(DuplicateName, link, [bare("b"), bare("a"), bare("a"), bare("b")], name="a")
        self.assert_error(DuplicateName, compile_all, ["(module a)", "(module b)", "(module a)"], name="a")

    def test_a_module_that_is_not_there(self):
        self.assert_error(UnknownModule, link, [bare("a", "b")], name="b")
        self.assert_error(UnknownModule, link, [bare("b", "u"), bare("a", "v", "w")], name="v")
        self.assert_error(UnknownModule, link, [bare("b", "u"), bare("a", "b", "w", "v")], name="w")
        self.assert_error(UnknownModule, link, [bare("b", "a", "u"), bare("a")], name="u")
        for texts, name in [([module("b", "u"), module("a", "v", "w")], "v"), ([module("a", "a", "v", "u")], "v")]:
            self.assert_error(UnknownModule, compile_all, texts, name=name)
            self.assert_error(UnknownModule, whole, texts, name=name)

    def test_a_ring(self):
        for imports in [{"a": "a"}, {"a": "b", "b": "a"}, {"a": "b", "b": "c", "c": "a"}, {"a": "", "b": "ab"},
                        {"a": "", "b": "ac", "c": "b"}, {"a": "b", "b": "c", "c": "b", "d": ""}]:
            self.assert_error(ModuleRing, link, [bare(name, *imports[name]) for name in imports])
            self.assert_error(ModuleRing, compile_all, [module(name, *imports[name]) for name in imports])
            self.assert_error(ModuleRing, whole, [module(name, *imports[name]) for name in imports])

    def test_a_long_ring(self):
        names = [f"m{at}" for at in range(3000)]
        self.assert_error(ModuleRing, link, [bare(name, names[at - 1]) for at, name in enumerate(names)])

    def test_the_order_of_the_errors(self):
        ring, missing = [bare("a", "a")], [bare("b", "u")]
        self.assert_error(DuplicateName, link, [*ring, *missing, bare("b")], name="b")
        self.assert_error(UnknownModule, link, [*ring, *missing], name="u")
        self.assert_error(UnknownModule, link, [bare("a", "a", "u")], name="u")
        self.assert_error(UnknownModule, link, [bare("a", "b"), bare("b", "a", "u")], name="u")

    def test_a_rule_of_a_unit_is_not_looked_at(self):
        odd = Unit("a", [], {}, {"k": (["..."], [("...", "...")], {})}, [])
        self.assertEqual(link([odd]), [])


class WholeOrderTest(FoldCase):
    """The order in which `compile_all` checks."""

    def assert_first(self, cls, texts, **fields):
        self.assert_error(cls, compile_all, texts, **fields)
        self.assert_error(cls, whole, texts, **fields)

    def test_text_by_text_the_text_the_first_form_and_the_name(self):
        self.assert_first(InvalidWord, ["(module a) 07", "(", "5"], at=11)
        self.assert_first(UnexpectedEnd, ["(module a)", "(", "07"], at=1)
        self.assert_first(InvalidForm, ["(module a)", "(modul b)", "07"])
        self.assert_first(DuplicateName, ["(module a)", "(module a) (define)", "07"], name="a")
        self.assert_first(DuplicateName, ["(module a)", "(module b)", "(module b)", "(module a)"], name="b")
        self.assert_first(TooDeep, ["(module a)" + "(" * 61, "07"])
        self.assert_first(InvalidForm, ["", "(module a)"])

    def test_then_text_by_text_the_other_forms(self):
        self.assert_first(InvalidWord, ["(module a) (define)", "07"], at=0)
        self.assert_first(DuplicateName, ["(module a) (define)", "(module a)"], name="a")
        self.assert_first(InvalidForm, ["(module b) (define)", "(module a) (macro k () 5)"])
        self.assert_first(InvalidRule, ["(module b) (macro k () 5)", "(module a) (define)"])
        self.assert_first(DuplicateName, ["(module b) (macro k () ((x x) 1))", "(module a) (define)"], name="x")

    def test_then_the_modules_that_are_not_there_and_rings(self):
        self.assert_first(InvalidForm, ["(module a) (import u)", "(module b) (define)"])
        self.assert_first(UnknownModule, ["(module b) (import b)", "(module a) (import u)"], name="u")
        self.assert_first(UnknownModule, ["(module a) (import b x) (define x (fn)) (import u)", "(module b)"], name="u")
        self.assert_first(ModuleRing, ["(module a) (define x (fn))", "(module b) (import b) (export y)"])
        self.assert_first(ModuleRing, ["(module a) (define x 1) (define x 1)", "(module b) (import b)"])

    def test_then_each_module_in_the_order_of_linking(self):
        self.assert_first(InvalidForm,
                          ["(module c) (define x u)", "(module a) (import b)", "(module b) (define x (fn))"])
        self.assert_first(UnknownName, ["(module b) (define x (fn))", "(module a) (define x u)"], name="u")
        self.assert_first(UnknownName, ["(module a) (import b x) (define y (fn))", "(module b)"], name="x")
        self.assert_first(DuplicateName, ["(module b) (define x (fn))", "(module a) (define x 1) (export x x)"],
                          name="x")
        self.assert_first(OutOfFuel, ["(module b) (define x u)", "(module a) (macro k () (() (k))) (define x (k))"],
                          name="k")


# Programs of several modules, with the module and the name of their last definition, and its outcome.
LISTS = """
(module lists)
(export list fold reverse each)
(define cons (fn (a b) (pair a b)))
(define fold (fn (f so-far many all)
  (if many (fold f (f (first all) so-far) (- many 1) (second all)) so-far)))
(define reverse (fn (many all) (fold cons 0 many all)))
(macro list () (() 0) ((a b ...) (cons a (list b ...))))
(macro each (in) ((name in many all start so-far body) (fold (fn (name so-far) body) start many all)))
"""
LOGIC = """
(module logic)
(export and or not cond when else-is)
(define no 0)
(macro not () ((a) (if a 0 1)))
(macro and () (() 1) ((a) a) ((a b ...) (if a (and b ...) no)))
(macro or () (() 0) ((a) a) ((a b ...) (let ((t a)) (if t t (or b ...)))))
(macro cond (else) ((else a) a) (((test a) more ...) (if test a (cond more ...))) ((else a) a) (() no))
(macro when () ((test a ...) (if test (last a ...) no)))
(macro last () ((a) a) ((a b c ...) (last b c ...)))
(define else-is (fn (t) (cond ((< t 0) -1) ((= t 0) 0) else 1)))
"""
MAIN = """
(module main)
(import lists (list of) fold reverse (each over))
(import logic and or (cond choose) (not if-not) else-is)
(define no 77)
(define t 5)
(define if 78)
(define fold-all (fn (all) (over x in 4 all no sum (+ x sum))))
(define so-far (fold-all (of 1 2 3 t)))
(define truth (fn (t) (or (and t (< t 0)) (and (if-not t) no) (choose ((= t 3) if) else (else-is t)))))
(define it (pair so-far (pair (truth -1) (pair (truth 0) (pair (truth 3) (pair (truth 9) (reverse 2 (of 8 9))))))))
"""
COUNTER = """
(module counter)
(export count even)
(define down (fn (n) (if n (down (- n 1)) 0)))
(macro count () ((n) (down n)))
(macro even () ((n) (let-macro ((go () (() 1) ((a b) (if a (odd b) 0))) (odd () ((b) (if b (go) 0)))) (go n n))))
"""
SWAP = """
(module swap)
(export swap)
(macro swap () ((a b body) (let ((t a)) (let ((a b) (b t)) body))))
"""


def programs():
    """Texts of programs, the definition that each one ends with, and its outcome."""
    return [
        ([LISTS, LOGIC, MAIN], ("main", "it"),
         ("value", ("pair", 88, ("pair", 1, ("pair", 77, ("pair", 78, ("pair", 1, ("pair", 9, ("pair", 8, 0)))))))),),
        ([COUNTER, "(module m) (import counter count even) (define down 7)"
          " (define it (pair (count 20000) (pair down (even down))))"],
         ("m", "it"), ("value", ("pair", 0, ("pair", 7, 1)))),
        ([SWAP, "(module m) (import swap (swap t)) (define f (fn (a b) (t a b (pair a b)))) (define it (f 1 2))"],
         ("m", "it"), ("value", ("pair", 2, 1))),
        ([SWAP, "(module m) (import swap swap) (define f (fn (t u) (swap t u (- t u)))) (define it (f 10 3))"],
         ("m", "it"), ("value", -7)),
        (["(module b) (import a x) (define y x)", "(module a) (export x) (define x (first 5))"], ("b", "y"),
         ("error", "kind")),
        (["(module a) (define x y) (define y 1)"], ("a", "x"), ("error", "early")),
        (["(module a) (define x (fn () y)) (define y 1) (define it (x))"], ("a", "it"), ("value", 1)),
        (["(module a) (export k) (macro k () ((a) (a)))", "(module b) (import a k) (define it (k (fn (x) x)))"],
         ("b", "it"), ("error", "count")),
    ]


class ProgramTest(FoldCase):
    def test_programs_come_to_their_outcome(self):
        for texts, (last_module, name), outcome in programs():
            for mixed in itertools.permutations(texts):
                self.assertEqual(outcome_of(whole(mixed), last_module, name), outcome, texts)

    def test_compile_all_gives_the_units_in_the_order_of_linking(self):
        units = compile_all([MAIN, LOGIC, LISTS])
        self.assertEqual([unit.name for unit in units], ["lists", "logic", "main"])
        self.assertEqual(link(units), whole([LISTS, MAIN, LOGIC]))

    def compile_apart(self, texts):
        """The units of modules, each compiled with the units alone that it imports and that these need."""
        units = {unit.name: unit for unit in compile_all(texts)}
        needed = {}
        for name in units:
            needed[name] = {}
            for other in units[name].imports:
                needed[name] |= {other: True} | needed[other]
        made = {}
        for name in units:
            text = next(text for text in texts if f"(module {name})" in text)
            made[name] = compile_module(text, {other: made[other] for other in needed[name]})
        return list(made.values())

    def test_modules_compiled_apart(self):
        for texts, (last_module, name), outcome in programs():
            units = self.compile_apart(texts)
            for mixed in itertools.permutations(units):
                self.assertEqual(link(mixed), whole(texts))
            read = [read_unit(write_unit(unit)) for unit in units]
            for mixed in itertools.permutations(read):
                self.assertEqual(link(mixed), whole(texts))
            self.assertEqual(outcome_of(link(read[::-1]), last_module, name), outcome)

    def test_modules_compiled_with_units_that_were_read(self):
        for texts, _, _ in programs():
            library = {}
            for unit in compile_all(texts):
                text = next(text for text in texts if f"(module {unit.name})" in text)
                again = compile_module(text, library)
                self.assertEqual(fields_of(again), fields_of(unit))
                self.assertEqual(write_unit(again), write_unit(unit))
                library[unit.name] = read_unit(write_unit(again))
            self.assertEqual(link(library.values()), whole(texts))

    def test_the_fields_of_compile_all_are_those_of_compile_module(self):
        library = {}
        for unit in compile_all([MAIN, LOGIC, LISTS]):
            text = {"main": MAIN, "logic": LOGIC, "lists": LISTS}[unit.name]
            library[unit.name] = compile_module(text, library)
            self.assertEqual(fields_of(library[unit.name]), fields_of(unit))

    def test_random_programs(self):
        outcomes = {}
        for seed in range(120):
            program = Program(seed)
            texts = program.texts(seed, POOL)
            try:
                program.cores()
                definitions = whole(texts[::-1])
            except (TooBig, FoldError):
                continue
            lib = read_unit(write_unit(compile_module(texts[0], {})))
            main = read_unit(write_unit(compile_module(texts[1], {"lib": lib})))
            self.assertEqual(link([main, lib]), definitions, texts)
            outcome = outcome_of(definitions, "main", "d0")
            outcomes[outcome[0]] = outcomes.get(outcome[0], 0) + 1
        self.assertGreater(outcomes["value"], 20)
        self.assertGreater(outcomes["error"], 20)


class ArgumentTest(FoldCase):
    def test_the_arguments_stay(self):
        units = compile_all([MAIN, LISTS, LOGIC])
        before = copy.deepcopy([fields_of(unit) for unit in units])
        given = units[::-1]
        kept = list(given)
        definitions = link(given)
        definitions.clear()
        self.assertEqual(given, kept)
        self.assertEqual([fields_of(unit) for unit in units], before)
        texts = [MAIN, LISTS, LOGIC]
        found = compile_all(texts)
        found[0].definitions.clear()
        found[0].exports.clear()
        found.clear()
        whole(texts).clear()
        self.assertEqual(texts, [MAIN, LISTS, LOGIC])
        self.assertEqual([fields_of(unit) for unit in compile_all(texts)], before)

    def test_units_share_nothing_that_can_be_changed(self):
        units = compile_all([LISTS, "(module b) (import lists list) (export list) (macro k () ((a) (list a)))"])
        before = copy.deepcopy(fields_of(units[0]))
        units[1].exports.clear()
        units[1].macros["k"][2].clear()
        self.assertEqual(fields_of(units[0]), before)
