"""Names, and what they mean where they stand (part 2 and point 3.4 of the document).

A meaning is a denotation of a module's scope, ("local", number) for a local variable, or
("local-macro", number) for a local macro. A symbol without a meaning has None.
"""

from aliasfold.core import PRIMITIVES

SPECIAL_FORMS = ("fn", "let", "if", "let-macro")
DOTS = "..."


class Scope:
    """The names that a form binds, or those of a module, and the scope around them (None for a module)."""

    def __init__(self, meanings, outer):
        self.meanings = meanings
        self.outer = outer


class NewName:
    """A name that a macro call inserts: equal to itself alone.

    Where nothing binds it, it means what its symbol means in the scope of the macro. The symbol of a
    macro that was itself inserted may be such a name, too.
    """

    def __init__(self, symbol, scope):
        self.symbol = symbol
        self.scope = scope


def written(name):
    """Return a name as it was written."""
    symbol = name
    while isinstance(symbol, NewName):
        symbol = symbol.symbol
    return symbol


def is_word(datum):
    """Tell whether a datum is a symbol, written or inserted."""
    return isinstance(datum, str) or isinstance(datum, NewName)


def can_be_bound(datum):
    """Tell whether a datum is a symbol that may be a name or a literal."""
    return is_word(datum) and datum != DOTS


def bound_meaning(name, scope):
    """Return what a scope, or one around it, binds a name to; None if none does."""
    around = scope
    while around is not None:
        if name in around.meanings:
            return around.meanings[name]
        around = around.outer
    return None


def meaning_of(name, scope):
    """Return the meaning of a name in a scope, or None."""
    found = bound_meaning(name, scope)
    while found is None and isinstance(name, NewName):
        name, scope = name.symbol, name.scope
        found = bound_meaning(name, scope)
    return found


def outermost_meanings():
    """Return the meanings that the words have which no module gives a meaning of its own."""
    special = {word: ("special", word) for word in SPECIAL_FORMS}
    return {**special, **{name: ("prim", name) for name in PRIMITIVES}}
