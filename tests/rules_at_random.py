"""Random modules for the tests of macros: rules with literals, dots and lists, and calls that mostly match them.

The modules know nothing of what they mean. Names come out of a small pool, so that almost everything
could catch, hide or match something else; many modules end in an error.
"""

import random

POOL = ["x", "y", "t", "if", "+", "else", "k"]
MORE = [*POOL, "f", "g", "h", "let", "fn", "m", "n"]


class Inside:
    """What an expression may be made of: names, macros, and the repeated variables of its template.

    `copies` tells whether elements may be repeated, and is None outside of templates; `in_copy` tells
    whether the expression is in a repeated element.
    """

    def __init__(self, names, macros, repeated=(), copies=None, in_copy=False):
        self.names, self.macros, self.repeated = list(names), list(macros), list(repeated)
        self.copies, self.in_copy = copies, in_copy

    def may_stand(self, name):
        return self.in_copy or name not in self.repeated

    def with_names(self, names):
        macros = [word for word in self.macros if word not in names]
        return Inside([*self.names, *names, *names], macros, self.repeated, self.copies, self.in_copy)

    def with_macros(self, macros):
        names = [word for word in self.names if word not in macros]
        return Inside(names, [*self.macros, *macros, *macros], self.repeated, self.copies, self.in_copy)

    def copy(self, variable):
        return Inside([*self.names, variable, variable], self.macros, self.repeated, False, True)


class Maker:
    def __init__(self, seed):
        self.chance = random.Random(seed)
        self.patterns = {}  # for each name of a macro its patterns, each with the literals
        self.wrong = self.chance.choice([0, 0, 0.01, 0.03])

    def goes_wrong(self):
        return self.chance.random() < self.wrong

    def pattern(self, depth, variables, literals, dots, repeated=False):
        many = self.chance.choice([0, 1, 1, 2, 2, 3])
        parts = [self.pattern_part(depth, variables, literals, dots, repeated) for _ in range(many)]
        if dots and not repeated and self.chance.random() < 0.4:
            parts += [self.pattern_part(depth, variables, literals, dots, True), "..."]
        if self.goes_wrong():
            parts.insert(self.chance.randrange(len(parts) + 1), "...")
        return parts

    def pattern_part(self, depth, variables, literals, dots, repeated):
        kind = self.chance.random()
        if kind < 0.25:
            return self.chance.choice([1, 2, *literals, *literals])
        if kind < 0.45 and depth:
            return self.pattern(depth - 1, variables, literals, dots, repeated)
        name = self.chance.choice([*POOL, "a", "b", "c"])
        if (name in variables or name in literals) and not self.goes_wrong():
            return self.chance.randrange(3)
        variables[name] = repeated
        return name

    def macro(self, depth, inside, name):
        """A macro; the rules of a local one in a template have no dots, because these would belong to the template."""
        dots = inside.copies is None
        words = [word for word in POOL if inside.may_stand(word)]
        literals = self.chance.sample(words, self.chance.choice([0, 0, 1, 2]))
        rules = []
        for _ in range(self.chance.choice([1, 1, 2, 3])):
            variables = {word: True for word in inside.repeated}
            pattern = self.pattern(1, variables, literals, dots)
            repeated = [word for word in variables if variables[word]]
            names = [word for word in [*inside.names, *variables, *variables] if word not in repeated]
            macros = [word for word in inside.macros if word not in variables]
            rules.append([pattern, self.expression(depth, Inside(names, macros, repeated, dots, inside.in_copy))])
        self.patterns[name] = [(rule[0], literals) for rule in rules]
        if dots and self.chance.random() < 0.7:
            rules.append([["any", "..."], 0])
        return [name, literals, *rules]

    def expression(self, depth, inside):
        kinds = ["leaf", "fn", "let", "if", "macros", "call", "call", "macro", "macro", "macro"]
        if self.goes_wrong():
            return self.chance.choice(["...", [], "none", "if", ["fn", ["x", "x"], 1], ["let", [["x", 1], ["..."]], 1],
                                       ["let-macro", [["k", [], [["a", "a"], 1]]], 1], ["if", 1], ["fn"]])
        kind = self.chance.choice(kinds) if depth > 0 else "leaf"
        if kind == "leaf" or kind == "macro" and not inside.macros:
            return self.chance.choice([self.chance.randrange(3), *inside.names])
        return getattr(self, "make_" + kind)(depth - 1, inside)

    def bound(self, inside, words):
        words = [word for word in words if inside.may_stand(word)]
        return self.chance.sample(words, min(len(words), self.chance.choice([0, 1, 1, 2])))

    def make_fn(self, depth, inside):
        names = self.bound(inside, POOL)
        return ["fn", names, self.expression(depth, inside.with_names(names))]

    def make_let(self, depth, inside):
        names = self.bound(inside, POOL)
        rows = [[name, self.expression(depth, inside)] for name in names]
        return ["let", rows, self.expression(depth, inside.with_names(names))]

    def make_if(self, depth, inside):
        word = "if" if inside.may_stand("if") else "pair"
        return [word, *[self.expression(depth, inside) for _ in range(3)]]

    def make_macros(self, depth, inside):
        names = self.bound(inside, MORE)
        macros = [self.macro(depth, inside.with_macros(names), name) for name in names]
        return ["let-macro", macros, self.expression(depth, inside.with_macros(names))]

    def make_call(self, depth, inside):
        parts = [self.expression(depth, inside) for _ in range(self.chance.randrange(3))]
        if inside.copies and inside.repeated and self.chance.random() < 0.8:
            variable = self.chance.choice(inside.repeated)
            copied = [variable, *[self.expression(depth, inside.copy(variable)) for _ in range(2)]]
            parts += [self.chance.choice([variable, copied]), "..."]
        return [self.chance.choice(["+", "-"]) if inside.may_stand("+") else "-", *parts]

    def make_macro(self, depth, inside):
        name = self.chance.choice(inside.macros)
        pattern, literals = self.chance.choice(self.patterns.get(name, [(["a"], [])]))
        return [name, *self.fitting_all(pattern, literals, depth, inside)]

    def fitting_all(self, pattern, literals, depth, inside):
        """Data that the elements of a list of a pattern mostly match."""
        parts = list(pattern)
        if parts[1:] and parts[-1] == "...":
            parts = parts[:-2] + parts[-2:-1] * self.chance.randrange(4)
        return [self.fitting(part, literals, depth, inside) for part in parts]

    def fitting(self, part, literals, depth, inside):
        """A datum that a part of a pattern mostly matches."""
        words = [word for word in POOL if inside.may_stand(word)]
        if self.chance.random() < 0.05 or part == "...":
            return self.expression(depth, inside)
        if isinstance(part, list):
            return self.fitting_all(part, literals, depth, inside)
        if isinstance(part, int) or part in literals:
            return part if inside.may_stand(part) else 1
        if self.chance.random() < 0.3 and words:
            return self.chance.choice(words)
        return self.expression(depth, inside)

    def module(self, name, exported):
        """The data of a module that imports from others, a dict of the names that these export."""
        imports, names = [], []
        for other in exported:
            items = []
            for word in exported[other]:
                local = self.chance.choice([word, *MORE])
                if local not in names:
                    names.append(local)
                    items.append([word, local])
                    self.patterns[local] = self.patterns.get(word, [(["a"], [])])
            imports.append(["import", other, *items])
        own = [word for word in self.chance.sample(MORE, 5) if word not in names]
        inside = Inside(own[2:], [*names, *own[:2]])
        macros = [["macro", *self.macro(2, inside, word)] for word in own[:2]]
        defines = [["define", word, self.expression(3, inside)] for word in own[2:]]
        forms = [*imports, *macros, *defines, *([["export", *names, *own]] if [*names, *own] else [])]
        self.chance.shuffle(forms)
        return [["module", name], *forms]
