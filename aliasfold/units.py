"""Units: what compiling a module gives, and its text (points 8.1 to 8.3 of the document)."""

from aliasfold.core import core_to_datum, datum_to_core, well_formed
from aliasfold.errors import InvalidCore, InvalidUnit, InvalidWord, UnexpectedClose, UnexpectedEnd
from aliasfold.reader import format_datum, read_data

# The number of words of each denotation, the first one counted.
DENOTATION_WORDS = {"special": 2, "prim": 2, "global": 3, "macro": 3}


class Unit:
    """A compiled module."""

    def __init__(self, name, imports, exports, macros, definitions):
        self.name = name
        self.imports = imports
        self.exports = exports
        self.macros = macros
        self.definitions = definitions


def scope_datum(scope):
    """Return the datum of a scope."""
    return [[name, *scope[name]] for name in sorted(scope)]


def macro_datum(name, macro):
    """Return the datum of a macro."""
    literals, rules, scope = macro
    return [name, list(literals), [[pattern, template] for pattern, template in rules], scope_datum(scope)]


def write_unit(unit):
    """Return the text of a unit."""
    macros = [macro_datum(name, unit.macros[name]) for name in sorted(unit.macros)]
    definitions = [[name, core_to_datum(core)] for name, core in unit.definitions]
    datum = ["unit", unit.name, list(unit.imports), scope_datum(unit.exports), macros, definitions]
    return format_datum(datum) + "\n"


def check_shape(holds):
    """Raise the error of a text that is not the text of a unit unless a condition holds."""
    if not holds:
        raise InvalidUnit("not the text of a unit")


def check_symbols(data):
    """Check that data are a list of symbols."""
    check_shape(isinstance(data, list) and all(isinstance(word, str) for word in data))


def check_rows(rows, many):
    """Check that data are a list of lists that have so many elements."""
    check_shape(isinstance(rows, list) and all(isinstance(row, list) and len(row) == many for row in rows))


def check_different(names):
    """Check that no name of a list is there twice."""
    check_shape(len(set(names)) == len(names))


def read_scope_row(row):
    """Return the name and the denotation of a row of a scope."""
    check_symbols(row)
    words = row[1:]
    check_shape(len(words) > 0 and len(words) == DENOTATION_WORDS.get(words[0], 0))
    return row[0], tuple(words)


def read_scope(rows):
    """Return the scope of its datum."""
    check_shape(isinstance(rows, list))
    return dict([read_scope_row(row) for row in rows])


def read_macro(row):
    """Return the macro of the datum of a macro, which is a list of four."""
    check_symbols(row[1])
    check_rows(row[2], 2)
    return (row[1], [(pattern, template) for pattern, template in row[2]], read_scope(row[3]))


def read_macros(rows):
    """Return the dict of the macros of their data."""
    check_rows(rows, 4)
    check_symbols([row[0] for row in rows])
    return {row[0]: read_macro(row) for row in rows}


def read_core(datum):
    """Return the core tree of its datum."""
    try:
        core = datum_to_core(datum)
    except InvalidCore:
        raise InvalidUnit("a definition that is not made of a core tree") from None
    check_shape(well_formed(core, []))
    return core


def read_definitions(rows):
    """Return the list of the definitions of their data."""
    check_rows(rows, 2)
    names = [row[0] for row in rows]
    check_symbols(names)
    check_different(names)
    return [(name, read_core(datum)) for name, datum in rows]


def unit_of(data):
    """Return the unit of the data of a text; neither the spaces nor the order of names are checked."""
    check_shape(len(data) == 1 and isinstance(data[0], list) and len(data[0]) == 6)
    word, name, imports, exports, macros, definitions = data[0]
    check_symbols([word, name])
    check_symbols(imports)
    check_different(imports)
    return Unit(name, imports, read_scope(exports), read_macros(macros), read_definitions(definitions))


def read_unit(text):
    """Return the unit of a text."""
    try:
        # No list of a text is nested deeper than the text is long.
        data = read_data(text, len(text))
    except (InvalidWord, UnexpectedClose, UnexpectedEnd):
        raise InvalidUnit("the text of a unit that cannot be read") from None
    unit = unit_of(data)
    # This finds all that makes it another text than that of its unit: spaces, remarks, another order, and
    # names of scopes and of macros that are there twice.
    check_shape(write_unit(unit) == text)
    return unit
