"""Random programs with macros for the tests of hygiene.

A program is first made without names: every variable, macro and parameter of a macro is an object, and
a use points at the object that it means. `core_of` gives the core tree that such an expression has to
become. `Names` then writes the program with names out of a small pool, so that the names of macros and
of the places where they are called are often alike; only what one text itself would hide is avoided.
"""

import random

WORDS = {
    "+": ("prim", "+"), "-": ("prim", "-"), "*": ("prim", "*"), "pair": ("prim", "pair"), "first": ("prim", "first"),
}
POOL = ["x", "y", "t", "if", "let", "fn", "let-macro", "+", "*", "pair", "first", "one", "m0", "m1", "w", "define"]


class Variable:
    """A variable, bound once."""


class Macro:
    """A macro with a parameter for a name, its scope and its value, or with plain parameters alone."""

    def __init__(self, word):
        self.word = word  # the name of a macro of a module, None for a local one
        self.name = None  # the parameter that stands for a name, or None
        self.scoped = None  # the parameter that is put where that name is bound
        self.plain = []
        self.template = None

    def parameters(self):
        return ([self.name, self.scoped] if self.name else []) + self.plain


class Maker:
    """Makes random expressions."""

    def __init__(self, seed):
        self.chance = random.Random(seed)
        self.left = 0

    def leaf(self, variables, holes, words):
        choices = [("int", self.chance.randrange(-9, 10))]
        choices += [("use", variable) for variable in variables] * 2
        choices += [("hole", hole) for hole in holes] * 2
        word = self.chance.choice(sorted(words))
        return self.chance.choice([*choices, ("word", word, words[word])])

    def expression(self, variables, holes, words, macros, depth):
        """A random expression: `variables` and `holes` may stand in it, and `macros` be called."""
        self.left -= 1
        if depth == 0 or self.left < 0:
            return self.leaf(variables, holes, words)
        kinds = ["leaf", "fn", "let", "let", "if", "call", "macros"] + ["macro"] * (4 if macros else 0)
        kind = self.chance.choice(kinds)

        def inner(more=(), new_macros=()):
            return self.expression([*variables, *more], holes, words, [*macros, *new_macros], depth - 1)

        if kind == "fn":
            names = [Variable() for _ in range(self.chance.randrange(3))]
            return ("fn", names, inner(names))
        if kind == "let":
            names = [Variable() for _ in range(self.chance.randrange(1, 3))]
            return ("let", [(name, inner()) for name in names], inner(names))
        if kind == "if":
            return ("if", [inner(), inner(), inner()])
        if kind == "call":
            return ("call", [inner() for _ in range(self.chance.randrange(1, 4))])
        if kind == "macros":
            made = [self.macro(None, variables, holes, words, macros, depth - 1)]
            return ("macros", made, inner((), made))
        if kind == "macro":
            return self.macro_call(inner)(self.chance.choice(macros))
        return self.leaf(variables, holes, words)

    def macro_call(self, inner):
        def called(macro):
            name = Variable() if macro.name else None
            scoped = inner([name]) if macro.name else None
            return ("macro", macro, name, scoped, [inner() for _ in macro.plain])
        return called

    def macro(self, word, variables, holes, words, macros, depth):
        macro = Macro(word)
        macro.plain = [Variable() for _ in range(self.chance.randrange(3))]
        free = [*holes, *macro.plain]
        if self.chance.random() < 0.6:
            macro.name, macro.scoped = Variable(), Variable()
            bound = [macro.name, macro.scoped]
            body = self.expression(variables, [*free, *bound], words, macros, depth)
            around = Variable()
            part = self.expression(variables, free, words, macros, depth)
            # The name is bound once, among inserted variables that lie around it and within it.
            macro.template = ("let", [(around, part)], ("let", [(macro.name, ("use", around))], body))
        else:
            macro.template = self.expression(variables, free, words, macros, depth)
        return macro


class Frame:
    """The numbers of the variables of one text or macro call, and the data that parameters stand for."""

    def __init__(self, outer):
        self.outer = outer
        self.known = {}

    def find(self, key):
        frame = self
        while key not in frame.known:
            frame = frame.outer
        return frame.known[key]

    def has(self, key):
        return key in self.known or (self.outer is not None and self.outer.has(key))


class TooBig(Exception):
    """A program that becomes too big to be worth its time."""


class Expander:
    """Gives the core tree that an expression has to become."""

    def __init__(self):
        self.next = 0
        self.met = 0

    def bind(self, names, frame):
        numbers = list(range(self.next, self.next + len(names)))
        self.next += len(names)
        for name, number in zip(names, numbers):
            home = frame
            # A parameter that stands for a name binds that name in the text of the call.
            while home.has(name) and isinstance(home.find(name), tuple):
                name, home = home.find(name)
            home.known[name] = number
        return numbers

    def core(self, node, frame):
        self.met += 1
        if self.met > 2000:
            raise TooBig
        kind = node[0]
        if kind == "int":
            return node
        if kind == "word":
            return node[2]
        if kind in ("use", "hole"):
            return self.meant(frame.find(node[1]))
        if kind == "fn":
            numbers = self.bind(node[1], frame)
            return ("fn", tuple(numbers), self.core(node[2], frame))
        if kind == "let":
            parts = [self.core(part, frame) for _, part in node[1]]
            numbers = self.bind([name for name, _ in node[1]], frame)
            return ("let", tuple(zip(numbers, parts)), self.core(node[2], frame))
        if kind == "if":
            return ("if", *[self.core(part, frame) for part in node[1]])
        if kind == "call":
            trees = [self.core(part, frame) for part in node[1]]
            return ("call", trees[0], tuple(trees[1:]))
        if kind == "macros":
            for macro in node[1]:
                frame.known[macro] = frame
            return self.core(node[2], frame)
        return self.call(node, frame)

    def meant(self, found):
        if isinstance(found, int):
            return ("local", found)
        node, frame = found
        if isinstance(node, Variable):
            return self.meant(frame.find(node))
        return self.core(node, frame)

    def call(self, node, frame):
        _, macro, name, scoped, plain = node
        inside = Frame(frame.find(macro) if macro.word is None else None)
        if macro.name:
            inside.known[macro.name] = (name, frame)
            inside.known[macro.scoped] = (scoped, frame)
        for parameter, part in zip(macro.plain, plain):
            inside.known[parameter] = (part, frame)
        return self.core(macro.template, inside)


def core_of(node):
    return Expander().core(node, Frame(None))


def keyword(node):
    return {"fn": "fn", "let": "let", "if": "if", "macros": "let-macro"}.get(node[0])


def parts_of(node):
    """The expressions that stand directly in another one, as it is written."""
    kind = node[0]
    if kind == "fn":
        return [node[2]]
    if kind == "let":
        return [part for _, part in node[1]] + [node[2]]
    if kind in ("if", "call"):
        return node[1]
    if kind == "macros":
        return [macro.template for macro in node[1]] + [node[2]]
    if kind == "macro":
        return [*([node[3]] if node[3] else []), *node[4]]
    return []


def uses(node):
    """Everything that stands in an expression and has its meaning from elsewhere: objects and words."""
    found, rest = [], [node]
    while rest:
        part = rest.pop()
        if keyword(part):
            found.append(keyword(part))
        if part[0] in ("use", "hole", "word"):
            found.append(part[1])
        if part[0] == "macro":
            found.append(part[1].word or part[1])
        if part[0] == "let":
            found.extend([name for name, _ in part[1]])
        rest.extend(parts_of(part))
    return found


class Names:
    """Writes expressions and macros with names, out of a pool or each with a name of its own."""

    def __init__(self, seed, pool, renamed):
        self.chance = random.Random(seed)
        self.pool = pool
        self.renamed = renamed  # the names that words have in this module
        self.given = {}
        self.fresh = 0

    def word(self, word):
        return self.renamed.get(word, word)

    def name(self, key):
        return self.given[key] if not isinstance(key, str) else self.word(key)

    def give(self, keys, regions, barred):
        """Give names to variables or macros that hold in some expressions."""
        taken = list(barred)
        for region in regions:
            taken += [self.name(key) for key in uses(region) if isinstance(key, str) or key in self.given]
        for key in keys:
            if key in self.given:
                continue
            choices = [name for name in self.pool if name not in taken]
            if not choices:
                self.fresh += 1
                choices = [f"v{self.fresh}"]
            self.given[key] = self.chance.choice(choices)
            taken.append(self.given[key])

    def datum(self, node, barred):
        kind = node[0]
        if kind == "int":
            return node[1]
        if kind in ("use", "hole", "word"):
            return self.name(node[1])
        if kind == "fn":
            self.give(node[1], [node[2]], barred)
            return [self.word("fn"), [self.given[name] for name in node[1]], self.datum(node[2], barred)]
        if kind == "let":
            self.give([name for name, _ in node[1]], [node[2]], barred)
            rows = [[self.given[name], self.datum(part, barred)] for name, part in node[1]]
            return [self.word("let"), rows, self.datum(node[2], barred)]
        if kind == "if":
            return [self.word("if"), *[self.datum(part, barred) for part in node[1]]]
        if kind == "call":
            return [self.datum(part, barred) for part in node[1]]
        if kind == "macros":
            self.give(node[1], parts_of(node), barred)
            made = [[self.given[macro], *self.macro(macro, barred)] for macro in node[1]]
            return [self.word("let-macro"), made, self.datum(node[2], barred)]
        return self.call(node, barred)

    def call(self, node, barred):
        _, macro, name, scoped, plain = node
        parts = []
        if name:
            self.give([name], parts_of(node), barred)
            parts = [self.given[name], self.datum(scoped, barred)]
        return [self.name(macro.word or macro), *parts, *[self.datum(part, barred) for part in plain]]

    def macro(self, macro, barred):
        """The literals and the one rule of a macro, as a list."""
        self.give(macro.parameters(), [macro.template], barred)
        names = [self.given[parameter] for parameter in macro.parameters()]
        return [[], [names, self.datum(macro.template, [*barred, *names])]]


def text_of(data):
    if isinstance(data, list):
        return "(" + " ".join(text_of(part) for part in data) + ")"
    return str(data)


def hiding_forms(chance, nodes, names):
    """Definitions that are written like special forms or primitives which a module does not use."""
    used = [names.name(word) for node in nodes for word in uses(node) if isinstance(word, str)]
    words = ["if", "let", "fn", "let-macro", "+", "*", "pair", "first", "define", "x", "y"]
    return [["define", word, 0] for word in words if word not in used and chance.random() < 0.5]


class Program:
    """A module of macros, a module that calls them, and the core trees of the latter."""

    def __init__(self, seed):
        maker = Maker(seed)
        self.chance = maker.chance
        self.macros = []
        for at in range(3):
            maker.left = 25
            words = {**WORDS, "one": ("global", "lib", "one")}
            self.macros.append(maker.macro(f"m{at}", [], [], words, list(self.macros), 3))
        self.bodies = []
        for _ in range(2):
            maker.left = 40
            self.bodies.append(maker.expression([], [], WORDS, self.macros, 5))

    def cores(self):
        return [core_of(body) for body in self.bodies]

    def texts(self, seed, pool):
        """The texts of both modules, with names out of a pool."""
        chance = random.Random(seed)
        names = Names(seed, pool, {})
        lib = [["module", "lib"], ["export", "m0", "m1", "m2"]]
        for macro in self.macros:
            lib.append(["macro", macro.word, *names.macro(macro, ["one", "m0", "m1", "m2"])])
        lib.append(["define", "one", 1])
        lib += hiding_forms(chance, [macro.template for macro in self.macros], names)
        local = {word: chance.choice([word, f"the-{word}"]) for word in ["m0", "m1", "m2"]}
        names = Names(seed, pool, local)
        main = [["module", "main"], ["import", "lib", *[[word, local[word]] for word in local]]]
        main += [["define", f"d{at}", names.datum(body, [])] for at, body in enumerate(self.bodies)]
        main += hiding_forms(chance, self.bodies, names)
        return ["\n".join(text_of(form) for form in forms) for forms in (lib, main)]
