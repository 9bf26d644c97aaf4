"""Expansion: from the datum of an expression to its core tree (part 4 of the document)."""

from aliasfold.counts import Counts
from aliasfold.errors import DuplicateName, InvalidForm, MisusedName, UnknownModule, UnknownName
from aliasfold.macros import Macro, call_macro
from aliasfold.names import Scope, can_be_bound, is_word, meaning_of, written
from aliasfold.rules import macro_parts


class Expansion:
    """The expansion of one module: what it has counted, and the macros that it has met.

    `macros` has the macros of the module itself, and `library` the units that have all others.
    """

    def __init__(self, module, macros, library):
        self.module = module
        self.macros = macros
        self.library = library
        self.counts = Counts()
        self.local_macros = []
        # The macros of modules that have been called, by their denotations.
        self.called = {}
        # The number of local variables in the definition that is expanded.
        self.variables = 0

    def new_variables(self, many):
        """Return the meanings of so many new local variables."""
        first = self.variables
        self.variables += many
        return [("local", number) for number in range(first, self.variables)]

    def add_local_macro(self, macro):
        """Keep a local macro, and return its meaning."""
        self.local_macros.append(macro)
        return ("local-macro", len(self.local_macros) - 1)

    def module_macro(self, module, name):
        """Return the macro of a module."""
        macros = self.macros
        if module != self.module or name not in macros:
            if module not in self.library:
                raise UnknownModule(module)
            macros = self.library[module].macros
        if name not in macros:
            raise UnknownName(name)
        literals, rules, meanings = macros[name]
        return Macro({literal: True for literal in literals}, rules, Scope(meanings, None))

    def macro(self, meaning):
        """Return the macro that is the meaning of a name."""
        if meaning[0] == "local-macro":
            return self.local_macros[meaning[1]]
        if meaning not in self.called:
            self.called[meaning] = self.module_macro(meaning[1], meaning[2])
        return self.called[meaning]


def check_bound(names):
    """Check the names that a form binds, from left to right."""
    bound = {}
    for name in names:
        if not can_be_bound(name):
            raise InvalidForm("a form that binds something that is no name")
        if name in bound:
            raise DuplicateName(written(name))
        bound[name] = True


def expand_all(work, data, scope, depth):
    """Return the tuple of the core trees of expressions that lie at a depth."""
    return tuple([expand(work, part, scope, depth) for part in data])


def inner_scope(names, meanings, scope):
    """Return the scope within a form that binds names to meanings."""
    return Scope({name: meaning for name, meaning in zip(names, meanings)}, scope)


def expand_fn(work, form, scope, depth):
    """Return the core tree of a fn, whose parts lie at a depth."""
    if len(form) != 3 or not isinstance(form[1], list):
        raise InvalidForm("a fn that is not made of names and a body")
    check_bound(form[1])
    variables = work.new_variables(len(form[1]))
    body = expand(work, form[2], inner_scope(form[1], variables, scope), depth)
    return ("fn", tuple([number for _, number in variables]), body)


def is_row(row):
    """Tell whether a datum is a list of two, as a let has them."""
    return isinstance(row, list) and len(row) == 2


def expand_let(work, form, scope, depth):
    """Return the core tree of a let, whose parts lie at a depth."""
    if len(form) != 3 or not isinstance(form[1], list) or not all(is_row(row) for row in form[1]):
        raise InvalidForm("a let that is not made of names with values and a body")
    names = [row[0] for row in form[1]]
    check_bound(names)
    parts = expand_all(work, [row[1] for row in form[1]], scope, depth)
    variables = work.new_variables(len(names))
    body = expand(work, form[2], inner_scope(names, variables, scope), depth)
    rows = [(number, part) for (_, number), part in zip(variables, parts)]
    return ("let", tuple(rows), body)


def expand_if(work, form, scope, depth):
    """Return the core tree of an if, whose parts lie at a depth."""
    if len(form) != 4:
        raise InvalidForm("an if that is not made of three parts")
    return ("if", *expand_all(work, form[1:], scope, depth))


def expand_let_macro(work, form, scope, depth):
    """Return the core tree of a let-macro, whose body lies at a depth."""
    if len(form) != 3 or not isinstance(form[1], list):
        raise InvalidForm("a let-macro that is not made of macros and a body")
    macros = [macro_parts(macro) for macro in form[1]]
    check_bound([parts[0] for parts in macros])
    inside = Scope({}, scope)
    # The rules are inside of all the names, so the scope is there ahead of the macros in it.
    for name, literals, rules in macros:
        known = {literal: True for literal in literals}
        inside.meanings[name] = work.add_local_macro(Macro(known, rules, inside))
    return expand(work, form[2], inside, depth)


FORMS = {
    "fn": expand_fn,
    "let": expand_let,
    "if": expand_if,
    "let-macro": expand_let_macro,
}


def head_meaning(datum, scope):
    """Return the meaning of the first element of a datum, or None if that is no symbol with a meaning."""
    if not isinstance(datum, list) or not datum or not is_word(datum[0]):
        return None
    return meaning_of(datum[0], scope)


def expand_word(word, scope):
    """Return the core tree of a symbol that is an expression."""
    meaning = meaning_of(word, scope)
    if meaning is None:
        raise UnknownName(written(word))
    if meaning[0] in ("special", "macro", "local-macro"):
        raise MisusedName(written(word))
    # The meanings of all other names are just their trees.
    return meaning


def expand(work, datum, scope, depth):
    """Return the core tree of an expression that lies at a depth in a scope."""
    work.counts.count_expression(depth)
    head = head_meaning(datum, scope)
    while head is not None and head[0] in ("macro", "local-macro"):
        datum = call_macro(work.counts, work.macro(head), datum, scope)
        head = head_meaning(datum, scope)
    if isinstance(datum, int):
        return ("int", datum)
    if not isinstance(datum, list):
        return expand_word(datum, scope)
    if not datum:
        raise InvalidForm("the empty list is no expression")
    if head is not None and head[0] == "special":
        if head[1] not in FORMS:
            raise InvalidForm("a special form that is none")
        action = FORMS[head[1]]
        return action(work, datum, scope, depth + 1)
    trees = expand_all(work, datum, scope, depth + 1)
    return ("call", trees[0], trees[1:])


def expand_definition(work, datum, scope):
    """Return the core tree of the expression of a definition."""
    work.variables = 0
    return expand(work, datum, scope, 1)
