"""Linking units to a program, and compiling programs of several modules (points 8.9 and 8.10 of the document)."""

from heapq import heappop, heappush

from aliasfold.errors import DuplicateName, ModuleRing, UnknownModule
from aliasfold.modules import compile_data, imported_modules, module_name
from aliasfold.reader import parse_all


def check_modules_are_there(imports):
    """Check that all modules are there that the modules of a dict import."""
    for name in sorted(imports):
        for other in imports[name]:
            if other not in imports:
                raise UnknownModule(other)


def importing_modules(imports):
    """Return for each module the modules that import it."""
    importing = {name: [] for name in imports}
    for name in imports:
        for other in imports[name]:
            importing[other].append(name)
    return importing


def linking_order(imports):
    """Return the names of modules in the order of linking; a dict has the imports of each."""
    check_modules_are_there(imports)
    importing = importing_modules(imports)
    waiting = {name: len(imports[name]) for name in imports}
    # A sorted list is a heap; the next module is always its first one.
    free = sorted([name for name in imports if waiting[name] == 0])
    order = []
    while free:
        name = heappop(free)
        order.append(name)
        for other in importing[name]:
            waiting[other] -= 1
            if waiting[other] == 0:
                heappush(free, other)
    if len(order) < len(imports):
        raise ModuleRing("modules that import one another in a ring")
    return order


def link(units):
    """Return the definitions of the program that units make up."""
    named = {}
    for unit in units:
        if unit.name in named:
            raise DuplicateName(unit.name)
        named[unit.name] = unit
    order = linking_order({name: named[name].imports for name in named})
    return [(name, word, core) for name in order for word, core in named[name].definitions]


def read_modules(texts):
    """Return a dict from the names of modules to the data of their texts."""
    modules = {}
    for text in texts:
        data = parse_all(text)
        name = module_name(data)
        if name in modules:
            raise DuplicateName(name)
        modules[name] = data
    return modules


def compile_all(texts):
    """Return the units of the modules of a program, in the order of linking."""
    modules = read_modules(texts)
    imports = {name: imported_modules(modules[name]) for name in modules}
    library = {}
    for name in linking_order(imports):
        library[name] = compile_data(modules[name], library)
    return list(library.values())


def whole(texts):
    """Return the definitions of the program that is read whole."""
    return link(compile_all(texts))
