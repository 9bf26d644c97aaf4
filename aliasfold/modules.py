"""Modules: their forms, and compiling them to units (points 8.6 to 8.8 and 8.10 of the document)."""

from aliasfold.errors import DuplicateName, InvalidForm, UnknownModule, UnknownName
from aliasfold.expansion import Expansion, expand_definition
from aliasfold.names import Scope, can_be_bound, outermost_meanings
from aliasfold.reader import parse_all
from aliasfold.rules import macro_parts
from aliasfold.units import Unit


def check_names(names):
    """Check that data are symbols that may be names."""
    for name in names:
        if not can_be_bound(name):
            raise InvalidForm("a form with something that is no name where a name is due")


def item_names(item):
    """Return the exported name and the local name of an item of an import."""
    names = item if isinstance(item, list) else [item, item]
    if len(names) != 2:
        raise InvalidForm("an item of an import that is not made of one name or two")
    check_names(names)
    return names[0], names[1]


def check_import(form):
    """Check an import."""
    if len(form) < 2:
        raise InvalidForm("an import without a module")
    check_names(form[1:2])
    for item in form[2:]:
        item_names(item)


def check_export(form):
    """Check an export."""
    if len(form) < 2:
        raise InvalidForm("an export without a name")
    check_names(form[1:])


def check_define(form):
    """Check a define."""
    if len(form) != 3:
        raise InvalidForm("a define that is not made of a name and an expression")
    check_names(form[1:2])


def check_macro(form):
    """Check a macro; everything that may be wrong with it is told by the errors of macros."""
    macro_parts(form[1:])


FORM_CHECKS = {
    "import": check_import,
    "export": check_export,
    "define": check_define,
    "macro": check_macro,
}


def check_form(form):
    """Check a form behind the first one of a module."""
    if not isinstance(form, list) or not form or not isinstance(form[0], str) or form[0] not in FORM_CHECKS:
        raise InvalidForm("a form of a module that is none")
    check = FORM_CHECKS[form[0]]
    check(form)


def module_name(data):
    """Return the name of a module."""
    first = data[0] if data else []
    if not isinstance(first, list) or len(first) != 2 or first[0] != "module":
        raise InvalidForm("a module that does not begin with its name")
    check_names(first[1:])
    return first[1]


def imported_modules(data):
    """Return the names of the modules that a module imports; all its forms but the first one are checked."""
    for form in data[1:]:
        check_form(form)
    modules = {form[1]: True for form in data[1:] if form[0] == "import"}
    return list(modules)


def give_name(names, name, denotation):
    """Add a name of a module to a dict of its names."""
    if name in names:
        raise DuplicateName(name)
    names[name] = denotation


def give_imported_names(names, form, library):
    """Add the names of an import to a dict of the names of a module."""
    if form[1] not in library:
        raise UnknownModule(form[1])
    exports = library[form[1]].exports
    for item in form[2:]:
        exported, local = item_names(item)
        if exported not in exports:
            raise UnknownName(exported)
        give_name(names, local, exports[exported])


def names_of(module, forms, library):
    """Return the names that a module imports, defines and gives to its macros, with their denotations."""
    names = {}
    for form in forms:
        if form[0] == "import":
            give_imported_names(names, form, library)
        elif form[0] == "define":
            give_name(names, form[1], ("global", module, form[1]))
        elif form[0] == "macro":
            give_name(names, form[1], ("macro", module, form[1]))
    return names


def exports_of(forms, names):
    """Return the names that a module exports, with their denotations."""
    exports = {}
    for form in forms:
        if form[0] == "export":
            for name in form[1:]:
                if name not in names:
                    raise UnknownName(name)
                give_name(exports, name, names[name])
    return exports


def macros_of(forms, meanings):
    """Return the macros of a module, in whose scope names have these meanings."""
    macros = {}
    for form in forms:
        if form[0] == "macro":
            name, literals, rules = macro_parts(form[1:])
            macros[name] = (literals, rules, dict(meanings))
    return macros


def compile_data(data, library):
    """Return the unit of a module, of which the data are given."""
    module = module_name(data)
    imports = imported_modules(data)
    forms = data[1:]
    names = names_of(module, forms, library)
    exports = exports_of(forms, names)
    meanings = {**outermost_meanings(), **names}
    macros = macros_of(forms, meanings)
    work = Expansion(module, macros, library)
    scope = Scope(meanings, None)
    defines = [form for form in forms if form[0] == "define"]
    definitions = [(form[1], expand_definition(work, form[2], scope)) for form in defines]
    return Unit(module, imports, exports, macros, definitions)


def compile_module(text, library):
    """Return the unit of a module."""
    return compile_data(parse_all(text), library)
