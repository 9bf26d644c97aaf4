"""Programs for the tests: short names for trees, programs with their outcomes, and random programs."""

import random

WORDS = ["+", "-", "*", "<", "=", "pair", "first", "second"]


def num(k):
    return ("int", k)


def loc(n):
    return ("local", n)


def glo(name, module="m"):
    return ("global", module, name)


def prim(name):
    return ("prim", name)


def fn(numbers, body):
    return ("fn", tuple(numbers), body)


def let(rows, body):
    return ("let", tuple(rows), body)


def choose(test, yes, no):
    return ("if", test, yes, no)


def call(function, *parts):
    return ("call", function, parts)


def op(name, *parts):
    """A call of a primitive."""
    return ("call", ("prim", name), parts)


def add(left, right):
    return op("+", left, right)


def pair(first, second):
    return op("pair", first, second)


ONE, TWO, THREE, ZERO = num(1), num(2), num(3), num(0)
BIG = num(10 ** 30)
NO_FUNCTION = call(ONE)
WRONG_COUNT = call(fn((), ONE), ONE)

VALUE_OF_ONE = [("m", "one", ONE)]

# Counts down from its parameter to 0 by last calls.
LOOP = ("m", "loop", fn([0], choose(loc(0), call(glo("loop"), op("-", loc(0), ONE)), num(7))))
# Adds up 1 as many times as its parameter says, by calls that are not last ones.
DEEP = ("m", "deep", fn([0], choose(loc(0), add(ONE, call(glo("deep"), op("-", loc(0), ONE))), ZERO)))
# A chain of as many pairs as its parameter says, put before its second parameter.
CHAIN = ("m", "chain", fn([0, 1], choose(
    loc(0), call(glo("chain"), op("-", loc(0), ONE), pair(loc(0), loc(1))), loc(1))))
# As CHAIN, but each pair has the pair before as its first value.
LEFT = ("m", "left", fn([0, 1], choose(
    loc(0), call(glo("left"), op("-", loc(0), ONE), pair(loc(1), loc(0))), loc(1))))
# A pair that has one pair twice, and so on, as many times as its parameter says.
TWICE = ("m", "twice", fn([0, 1], choose(
    loc(0), call(glo("twice"), op("-", loc(0), ONE), pair(loc(1), loc(1))), loc(1))))
# Two functions that call each other by last calls.
EVEN = ("m", "even", fn([0], choose(loc(0), call(glo("odd"), op("-", loc(0), ONE)), ONE)))
ODD = ("m", "odd", fn([0], choose(loc(0), call(glo("even"), op("-", loc(0), ONE)), ZERO)))

# Definitions, the last tree, the outcome by the plain meaning, and its steps (counted by hand).
PROGRAMS = [
    # Each kind of tree.
    ([], num(5), ("value", 5), 1),
    ([], num(-5), ("value", -5), 1),
    ([], prim("+"), ("value", "fn"), 1),
    ([], fn((), NO_FUNCTION), ("value", "fn"), 1),
    (VALUE_OF_ONE, glo("one"), ("value", 1), 2),
    (VALUE_OF_ONE, add(glo("one"), TWO), ("value", 3), 5),
    ([], call(fn((), num(4))), ("value", 4), 3),
    ([], call(fn([0, 1], loc(0)), ONE, TWO), ("value", 1), 5),
    ([], call(fn([0, 1], loc(1)), ONE, TWO), ("value", 2), 5),
    ([], call(fn([5, 2], op("-", loc(5), loc(2))), num(9), TWO), ("value", 7), 8),
    ([], let([], ONE), ("value", 1), 2),
    ([], let([(0, ONE), (1, TWO)], op("-", loc(0), loc(1))), ("value", -1), 7),
    # Definitions are carried out in their order, and see those before them.
    ([("m", "a", ONE), ("m", "b", add(glo("a"), glo("a"))), ("n", "a", add(glo("b"), glo("a")))],
     pair(glo("a", "n"), glo("a")), ("value", ("pair", 3, 1)), 1 + 4 + 4 + 4),
    ([("m", "a", ONE), ("m", "b", NO_FUNCTION), ("m", "c", THREE)], THREE, ("error", "kind"), 3),
    # A global that is not carried out yet.
    ([("m", "a", glo("b")), ("m", "b", ONE)], ONE, ("error", "early"), 1),
    ([("m", "a", glo("a"))], ONE, ("error", "early"), 1),
    ([("m", "a", add(ONE, glo("b"))), ("m", "b", ONE)], ONE, ("error", "early"), 4),
    ([("m", "f", fn((), glo("b"))), ("m", "a", call(glo("f"))), ("m", "b", ONE)], ONE, ("error", "early"), 4),
    ([("m", "f", fn((), glo("b"))), ("m", "b", num(8))], call(glo("f")), ("value", 8), 5),
    ([("m", "f", fn((), glo("f")))], call(glo("f")), ("value", "fn"), 4),
    ([("m", "a", choose(ZERO, glo("b"), ONE)), ("m", "b", TWO)], glo("a"), ("value", 1), 5),
    ([], glo("a"), ("error", "early"), 1),
    ([("m", "a", ONE)], glo("a", "n"), ("error", "early"), 2),
    # A let: its parts do not see its variables, and what is bound within hides what is bound around.
    ([], let([(0, ONE)], let([(0, add(loc(0), ONE)), (1, loc(0))], pair(loc(0), loc(1)))),
     ("value", ("pair", 2, 1)), 12),
    ([], let([(0, ONE), (1, TWO)], let([(0, loc(1)), (1, loc(0))], pair(loc(0), loc(1)))),
     ("value", ("pair", 2, 1)), 10),
    ([], let([(0, ONE)], add(let([(0, TWO)], loc(0)), loc(0))), ("value", 3), 8),
    ([], call(fn([0], add(call(fn([0], loc(0)), TWO), loc(0))), ONE), ("value", 3), 10),
    ([], let([(0, let([(0, ONE)], loc(0)))], loc(0)), ("value", 1), 5),
    # An if.
    ([], choose(ZERO, ONE, TWO), ("value", 2), 3),
    ([], choose(num(-0), ONE, TWO), ("value", 2), 3),
    ([], choose(ONE, ONE, TWO), ("value", 1), 3),
    ([], choose(num(-1), ONE, TWO), ("value", 1), 3),
    ([], choose(fn((), ZERO), ONE, TWO), ("value", 1), 3),
    ([], choose(prim("-"), ONE, TWO), ("value", 1), 3),
    ([], choose(pair(ZERO, ZERO), ONE, TWO), ("value", 1), 6),
    ([], choose(op("=", ONE, TWO), NO_FUNCTION, TWO), ("value", 2), 6),
    ([], choose(op("=", TWO, TWO), ONE, NO_FUNCTION), ("value", 1), 6),
    ([], choose(NO_FUNCTION, ONE, TWO), ("error", "kind"), 3),
    ([], add(choose(ONE, TWO, THREE), choose(ZERO, TWO, THREE)), ("value", 5), 8),
    ([], choose(choose(ONE, ZERO, ONE), TWO, choose(ONE, THREE, TWO)), ("value", 3), 7),
    # Functions keep the variables around them.
    ([], call(call(fn([0], fn([1], op("-", loc(0), loc(1)))), num(9)), TWO), ("value", 7), 10),
    ([], let([(0, ONE)], let([(1, fn((), loc(0)))], let([(0, TWO)], call(loc(1))))), ("value", 1), 9),
    ([], let([(0, ONE)], let([(1, fn([0], loc(0)))], call(loc(1), num(6)))), ("value", 6), 8),
    ([("m", "adder", fn([0], fn([1], add(loc(0), loc(1))))), ("m", "a", call(glo("adder"), ONE)),
      ("m", "b", call(glo("adder"), num(10)))],
     pair(call(glo("a"), TWO), call(glo("b"), TWO)), ("value", ("pair", 3, 12)), 1 + 4 + 4 + 2 + 2 * (3 + 4)),
    ([], call(call(call(fn([0], fn([1], fn([2], pair(loc(0), pair(loc(1), loc(2)))))), ONE), TWO), THREE),
     ("value", ("pair", 1, ("pair", 2, 3))), 3 + 1 + 3 + 1 + 1 + 7),
    # The order: a function, its parts, and then the call.
    ([], call(NO_FUNCTION, glo("a")), ("error", "kind"), 3),
    ([], call(ONE, glo("a")), ("error", "early"), 3),
    ([], call(prim("first"), ONE, glo("a")), ("error", "early"), 4),
    ([], call(fn((), ONE), NO_FUNCTION, glo("a")), ("error", "kind"), 4),
    ([], call(fn((), ONE), glo("a"), NO_FUNCTION), ("error", "early"), 3),
    ([], add(op("first", ONE), glo("a")), ("error", "kind"), 5),
    ([], let([(0, NO_FUNCTION), (1, glo("a"))], glo("a")), ("error", "kind"), 3),
    ([], let([(0, ONE), (1, glo("a"))], NO_FUNCTION), ("error", "early"), 3),
    # What is called: "kind" ahead of "count".
    ([], NO_FUNCTION, ("error", "kind"), 2),
    ([], call(ZERO, ONE, TWO), ("error", "kind"), 4),
    ([], call(pair(ONE, TWO)), ("error", "kind"), 5),
    ([], call(pair(prim("+"), prim("-")), ONE, TWO), ("error", "kind"), 7),
    ([], WRONG_COUNT, ("error", "count"), 3),
    ([], call(fn([0], NO_FUNCTION)), ("error", "count"), 2),
    ([], call(fn([0, 1], NO_FUNCTION), ONE), ("error", "count"), 3),
    ([], call(fn([0, 1], NO_FUNCTION), ONE, ONE, ONE), ("error", "count"), 5),
    # Primitives as values.
    ([], call(choose(ONE, prim("+"), prim("-")), num(5), THREE), ("value", 8), 6),
    ([], call(choose(ZERO, prim("+"), prim("-")), num(5), THREE), ("value", 2), 6),
    ([], call(fn([0, 1], call(loc(0), loc(1), loc(1))), prim("*"), num(7)), ("value", 49), 8),
    ([("m", "times", prim("*"))], call(glo("times"), num(6), num(7)), ("value", 42), 5),
    ([], call(op("second", pair(prim("+"), fn([0], loc(0)))), num(3)), ("value", 3), 9),
    ([], call(fn([0], call(loc(0), ONE)), prim("pair")), ("error", "count"), 6),
    ([], call(fn([0], call(loc(0), ONE)), prim("first")), ("error", "kind"), 6),
    # Pairs.
    ([], op("first", pair(num(8), num(9))), ("value", 8), 6),
    ([], op("second", pair(num(8), num(9))), ("value", 9), 6),
    ([], pair(prim("pair"), fn([0], loc(0))), ("value", ("pair", "fn", "fn")), 4),
    ([], pair(pair(ONE, TWO), pair(prim("<"), pair(THREE, ZERO))),
     ("value", ("pair", ("pair", 1, 2), ("pair", "fn", ("pair", 3, 0)))), 2 + 4 + 3 + 4),
    # Comparing and reckoning.
    ([], op("<", ONE, TWO), ("value", 1), 4),
    ([], op("<", TWO, TWO), ("value", 0), 4),
    ([], op("<", TWO, ONE), ("value", 0), 4),
    ([], op("=", TWO, TWO), ("value", 1), 4),
    ([], op("=", TWO, ONE), ("value", 0), 4),
    ([], op("*", num(-6), num(7)), ("value", -42), 4),
    ([], add(num(-6), num(7)), ("value", 1), 4),
    ([], op("*", BIG, BIG), ("value", 10 ** 60), 4),
    ([], add(op("*", BIG, BIG), ONE), ("error", "size"), 7),
    ([], op("-", op("*", num(-10 ** 30), BIG), ONE), ("error", "size"), 7),
    # Long programs.
    ([LOOP], call(glo("loop"), ZERO), ("value", 7), 1 + 3 + 3),
    ([LOOP], call(glo("loop"), num(3)), ("value", 7), 1 + 3 + 3 * 8 + 3),
    ([DEEP], call(glo("deep"), num(3)), ("value", 3), 1 + 3 + 3 * 11 + 3),
    ([EVEN, ODD], call(glo("even"), num(4)), ("value", 1), 2 + 3 + 4 * 8 + 3),
    ([EVEN, ODD], call(glo("even"), num(5)), ("value", 0), 2 + 3 + 5 * 8 + 3),
    ([CHAIN], call(glo("chain"), TWO, ZERO), ("value", ("pair", 1, ("pair", 2, 0))), 1 + 4 + 2 * 12 + 3),
    ([LEFT], call(glo("left"), TWO, ZERO), ("value", ("pair", ("pair", 0, 2), 1)), 1 + 4 + 2 * 12 + 3),
    ([TWICE], call(glo("twice"), TWO, ZERO), ("value", ("pair", ("pair", 0, 0), ("pair", 0, 0))), 1 + 4 + 2 * 12 + 3),
]


class Maker:
    """Makes random trees that are well formed where no variables are known, most of them without an error."""

    def __init__(self, seed):
        self.random = random.Random(seed)
        self.names = []

    def leaf(self, known):
        chance = self.random.random()
        if chance < 0.005:
            return glo("a")
        if chance < 0.01:
            return prim(self.random.choice(WORDS))
        if chance < 0.1 and self.names:
            return glo(self.random.choice(self.names))
        if chance < 0.6 and known:
            return loc(self.random.choice(known))
        return num(self.random.choice([0, 0, 1, 1, 2, -3, 10 ** 39]))

    def numbers(self, least, most):
        """Some different numbers; there are few in all, so that they often hide one another."""
        return self.random.sample(range(4), self.random.randint(least, most))

    def fn(self, known, size, many):
        numbers = self.numbers(many, many)
        return fn(numbers, self.tree(known + numbers, size))

    def let(self, known, size):
        numbers = self.numbers(0, 3)
        rows = [(number, self.tree(known, size // 4)) for number in numbers]
        return let(rows, self.tree(known + numbers, size // 2))

    def kept(self, known, size):
        """A function that stands in a let and is called in its body, where other variables hide some."""
        many = self.random.randint(0, 2)
        inner = self.numbers(1, 2)
        number = self.random.choice([n for n in range(4) if n not in inner])
        parts = [self.tree(known, size // 4) for _ in range(many)]
        used = let([(n, self.tree([*known, number], size // 4)) for n in inner], call(loc(number), *parts))
        return let([(number, self.fn(known, size // 2, many))], used)

    def called(self, known, size):
        """What is called, and how many values it takes."""
        many = self.random.randint(0, 3)
        chance = self.random.random()
        if chance < 0.45:
            return self.fn(known, size, many), many
        if chance < 0.9:
            return prim(self.random.choice(WORDS[:6])), 2
        if chance < 0.95:
            return choose(self.tree(known, size // 2), prim("+"), self.fn(known, size // 2, 2)), 2
        return self.tree(known, size), many

    def half(self, known, size):
        parts = [self.tree(known, size // 2), self.tree(known, size // 2)]
        return op(self.random.choice(["first", "second"]), pair(*parts))

    def tree(self, known, size):
        if size <= 1:
            return self.leaf(known)
        chance = self.random.random()
        if chance < 0.03:
            return self.fn(known, size - 1, self.random.randint(0, 2))
        if chance < 0.2:
            return self.let(known, size)
        if chance < 0.3:
            return self.kept(known, size)
        if chance < 0.4:
            return self.half(known, size)
        if chance < 0.6:
            return choose(*[self.tree(known, size // 3) for _ in range(3)])
        function, many = self.called(known, size // 2)
        if self.random.random() < 0.02:
            many += 1
        return call(function, *[self.tree(known, size // 3) for _ in range(many)])


def random_program(seed):
    """Definitions and a last tree; a definition may name itself or one behind it, too."""
    maker = Maker(seed)
    definitions = []
    for name in ["a", "b", "c"][:seed % 4]:
        definitions.append(("m", name, maker.tree([], maker.random.randint(1, 12))))
        maker.names.append(name)
    return definitions, maker.tree([], maker.random.randint(3, 200))
