"""A second, small compiler of modules, for the tests: written straight from the document, and by recursion.

An inserted name gets its meaning when it is made, and each scope is one dict with all its names.
"""

from aliasfold import errors
from aliasfold.units import Unit

SPECIAL = ["fn", "let", "if", "let-macro"]
PRIMITIVES = ["+", "-", "*", "<", "=", "pair", "first", "second"]


class Inserted:
    def __init__(self, word, meaning):
        self.word = word
        self.meaning = meaning


def word_of(name):
    return name.word if isinstance(name, Inserted) else name


def is_word(datum):
    return isinstance(datum, (str, Inserted))


def is_name(datum):
    return is_word(datum) and datum != "..."


def meaning(name, scope):
    return scope.get(name, name.meaning if isinstance(name, Inserted) else None)


def check(holds, cls, *name):
    if not holds:
        raise cls(*name)


def check_size(datum, around=0, many=0):
    """The number of data that were met behind this datum and what is in it."""
    check(around <= 60, errors.TooDeep)
    check(many < 500, errors.TooLarge)
    many += 1
    for part in datum if isinstance(datum, list) else []:
        many = check_size(part, around + 1, many)
    return many


def variables_of(pattern, literals, repeated=False):
    """Pairs of a variable and whether it is repeated."""
    if not isinstance(pattern, list):
        return [(pattern, repeated)] if is_word(pattern) and pattern not in literals else []
    dots = pattern[1:] and pattern[-1] == "..."
    check(not (dots and repeated), errors.InvalidRule)
    parts = pattern[:-1] if dots else pattern
    check("..." not in parts, errors.InvalidRule)
    found = []
    for at, part in enumerate(parts):
        found += variables_of(part, literals, repeated or bool(dots) and at == len(parts) - 1)
    return found


def pieces(template):
    """The elements of a list of a template, each with whether dots are behind it."""
    found = []
    for part in template:
        if part == "...":
            check(found and not found[-1][1], errors.InvalidRule)
            found[-1] = (found[-1][0], True)
        else:
            found.append((part, False))
    return found


def check_template(template, variables, inside=False):
    """Whether a repeated variable stands in a template."""
    check(template != "...", errors.InvalidRule)
    if not isinstance(template, list):
        repeated = is_word(template) and variables.get(template, False)
        check(inside or not repeated, errors.InvalidRule)
        return repeated
    found = False
    for part, dots in pieces(template):
        check(not (inside and dots), errors.InvalidRule)
        here = check_template(part, variables, inside or dots)
        check(here or not dots, errors.InvalidRule)
        found = found or here
    return found


def check_macro(macro):
    check(isinstance(macro, list) and len(macro) > 2 and is_name(macro[0]), errors.InvalidRule)
    check(isinstance(macro[1], list) and all(is_name(literal) for literal in macro[1]), errors.InvalidRule)
    for rule in macro[2:]:
        check_size(rule)
        check(isinstance(rule, list) and len(rule) == 2 and isinstance(rule[0], list), errors.InvalidRule)
        variables = variables_of(rule[0], macro[1])
        for at, (name, _) in enumerate(variables):
            check(name not in [other for other, _ in variables[:at]], errors.DuplicateName, word_of(name))
        check_template(rule[1], dict(variables))


def check_bound(names):
    for at, name in enumerate(names):
        check(is_name(name), errors.InvalidForm)
        check(name not in names[:at], errors.DuplicateName, word_of(name))


class NoMatch(Exception):
    """A pattern does not match."""


class Work:
    def __init__(self, name, macros, library):
        self.name, self.macros, self.library = name, macros, library
        self.local = []
        self.left = {"calls": 300, "expressions": 20000, "transcribed": 50000, "held": 60000}
        self.number = 0

    def take(self, what, cls, *name):
        check(self.left[what] > 0, cls, *name)
        self.left[what] -= 1

    def match(self, macro, pattern, datum, scope):
        """What the variables stand for: lists for those that are repeated."""
        self.take("held", errors.TooLarge)
        literals, _, home = macro
        if isinstance(pattern, list):
            return self.match_list(macro, pattern, datum, scope)
        if isinstance(pattern, int):
            check(datum == pattern, NoMatch)
            return {}
        if pattern not in literals:
            return {pattern: datum}
        check(is_word(datum), NoMatch)
        wanted, given = meaning(pattern, home), meaning(datum, scope)
        check(wanted == given and (wanted or word_of(pattern) == word_of(datum)), NoMatch)
        return {}

    def match_list(self, macro, pattern, datum, scope):
        check(isinstance(datum, list), NoMatch)
        found = {}
        if pattern[-1:] == ["..."]:
            *pattern, repeated, _ = pattern
            check(len(datum) >= len(pattern), NoMatch)
            copies = [self.match(macro, repeated, part, scope) for part in datum[len(pattern):]]
            for name, _ in variables_of(repeated, macro[0]):
                found[name] = [copy[name] for copy in copies]
            datum = datum[:len(pattern)]
        check(len(datum) == len(pattern), NoMatch)
        for part, inner in zip(pattern, datum):
            found |= self.match(macro, part, inner, scope)
        return found

    def transcribe(self, template, found, repeated, home, new):
        """The datum of a template; `repeated` has the names in `found` that stand for lists."""
        if isinstance(template, int):
            return template
        if is_word(template):
            if template in found:
                return found[template]
            return new.setdefault(template, Inserted(word_of(template), meaning(template, home)))
        datum = []
        for part, dots in pieces(template):
            lists = [found[name] for name in repeated if name in flat(part)] if dots else []
            for at in range(min(map(len, lists)) if dots else 1):
                self.take("transcribed", errors.TooLarge)
                one = {name: found[name][at: at + 1] for name in repeated} if dots else {}
                one = {name: row[0] for name, row in one.items() if row}
                datum.append(self.transcribe(part, {**found, **one}, repeated, home, new))
        return datum

    def called(self, datum, scope):
        """What a macro call becomes."""
        name, meant = word_of(datum[0]), meaning(datum[0], scope)
        self.take("calls", errors.OutOfFuel, name)
        if meant[0] == "local-macro":
            macro = self.local[meant[1]]
        else:
            macro = (self.macros if meant[1] == self.name else self.library[meant[1]].macros)[meant[2]]
        for pattern, template in macro[1]:
            try:
                found = self.match(macro, pattern, datum[1:], scope)
            except NoMatch:
                continue
            repeated = [variable for variable, many in variables_of(pattern, macro[0]) if many]
            return self.transcribe(template, found, repeated, macro[2], {})
        raise errors.NoMatchingRule(name)

    def expand(self, datum, scope, depth):
        check(depth <= 60, errors.TooDeep)
        self.take("expressions", errors.TooLarge)
        kind, first = kind_of(datum, scope)
        while kind in ("macro", "local-macro"):
            datum = self.called(datum, scope)
            kind, first = kind_of(datum, scope)
        if isinstance(datum, int):
            return ("int", datum)
        if is_word(datum):
            meant = meaning(datum, scope)
            check(meant, errors.UnknownName, word_of(datum))
            check(meant[0] in ("local", "global", "prim"), errors.MisusedName, word_of(datum))
            return meant
        check(datum, errors.InvalidForm)
        if kind == "special":
            return getattr(self, "expand_" + first.replace("-", "_"))(datum, scope, depth + 1)
        trees = [self.expand(part, scope, depth + 1) for part in datum]
        return ("call", trees[0], tuple(trees[1:]))

    def bind(self, names, scope):
        numbers = tuple(range(self.number, self.number + len(names)))
        self.number += len(names)
        return numbers, {**scope, **{name: ("local", number) for name, number in zip(names, numbers)}}

    def expand_fn(self, form, scope, depth):
        check(len(form) == 3 and isinstance(form[1], list), errors.InvalidForm)
        check_bound(form[1])
        numbers, inside = self.bind(form[1], scope)
        return ("fn", numbers, self.expand(form[2], inside, depth))

    def expand_let(self, form, scope, depth):
        check(len(form) == 3 and isinstance(form[1], list), errors.InvalidForm)
        check(all(isinstance(row, list) and len(row) == 2 for row in form[1]), errors.InvalidForm)
        check_bound([row[0] for row in form[1]])
        parts = [self.expand(row[1], scope, depth) for row in form[1]]
        numbers, inside = self.bind([row[0] for row in form[1]], scope)
        return ("let", tuple(zip(numbers, parts)), self.expand(form[2], inside, depth))

    def expand_if(self, form, scope, depth):
        check(len(form) == 4, errors.InvalidForm)
        return ("if", *[self.expand(part, scope, depth) for part in form[1:]])

    def expand_let_macro(self, form, scope, depth):
        check(len(form) == 3 and isinstance(form[1], list), errors.InvalidForm)
        for macro in form[1]:
            check_macro(macro)
        check_bound([macro[0] for macro in form[1]])
        inside = dict(scope)
        for name, literals, *rules in form[1]:
            inside[name] = ("local-macro", len(self.local))
            self.local.append((literals, rules, inside))
        return self.expand(form[2], inside, depth)


def flat(datum):
    return [word for part in datum for word in flat(part)] if isinstance(datum, list) else [datum]


def kind_of(datum, scope):
    """The kind of the meaning of the first element of a list, and its word."""
    if not isinstance(datum, list) or not datum or not is_word(datum[0]):
        return None, None
    return (meaning(datum[0], scope) or (None, None))[:2]


def compile_second(data, library):
    """The unit of a module whose forms, but for the rules of its macros, are not malformed."""
    module, forms = data[0][1], data[1:]
    for form in forms:
        if form[0] == "macro":
            check_macro(form[1:])
    names, exports, imports, items = {}, {}, [], []
    for form in forms:
        if form[0] == "import":
            imports += [form[1]] if form[1] not in imports else []
            items = [item if isinstance(item, list) else [item, item] for item in form[2:]]
            given = [(local, library[form[1]].exports[exported]) for exported, local in items]
        else:
            kind = {"define": "global", "macro": "macro"}.get(form[0])
            given = [(form[1], (kind, module, form[1]))] if kind else []
        for name, meant in given:
            check(name not in names, errors.DuplicateName, name)
            names[name] = meant
    for name in [name for form in forms if form[0] == "export" for name in form[1:]]:
        exports[name] = names[name]
    scope = {**{word: ("special", word) for word in SPECIAL}, **{word: ("prim", word) for word in PRIMITIVES}, **names}
    macros = {form[1]: (form[2], [tuple(rule) for rule in form[3:]], scope) for form in forms if form[0] == "macro"}
    work, definitions = Work(module, macros, library), []
    for form in forms:
        if form[0] == "define":
            work.number = 0
            definitions.append((form[1], work.expand(form[2], scope, 1)))
    return Unit(module, imports, exports, macros, definitions)
