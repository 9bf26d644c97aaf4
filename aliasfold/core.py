"""Core trees: which are well formed, and their data (part 5 of the document)."""

from aliasfold.errors import InvalidCore
from aliasfold.reader import is_symbol

PRIMITIVES = ("+", "-", "*", "<", "=", "pair", "first", "second")
GREATEST_LOCAL = 1000000000
DEEPEST_PART = 100


def is_local_number(number):
    """Tell whether a datum is the number of a local variable."""
    return isinstance(number, int) and 0 <= number <= GREATEST_LOCAL


def is_name(name):
    """Tell whether a datum is a symbol."""
    return isinstance(name, str) and is_symbol(name)


def are_different_locals(numbers):
    """Tell whether the data of a list are numbers of local variables, none twice."""
    if not all(is_local_number(number) for number in numbers):
        return False
    return len(set(numbers)) == len(numbers)


def bound_numbers(core):
    """Return the numbers that a tree itself binds, from left to right."""
    if core[0] == "fn":
        return list(core[1])
    if core[0] == "let":
        return [number for number, part in core[1]]
    return []


def is_sound(core):
    """Tell whether the numbers and words that stand in a tree itself are as 5.1 and 5.3 ask."""
    word = core[0]
    if word == "int":
        return abs(core[1]) < 10 ** 40
    if word == "local":
        return is_local_number(core[1])
    if word == "global":
        return is_name(core[1]) and is_name(core[2])
    if word == "prim":
        return core[1] in PRIMITIVES
    return are_different_locals(bound_numbers(core))


def inner_trees(core, known):
    """Return the parts of a tree, each with a dict of the variables that are known in it."""
    word = core[0]
    if word == "if":
        return [(part, known) for part in core[1:]]
    if word == "call":
        return [(part, known) for part in (core[1], *core[2])]
    if word not in ("fn", "let"):
        return []
    inside = {**known, **{number: True for number in bound_numbers(core)}}
    outer = [(part, known) for number, part in core[1]] if word == "let" else []
    return outer + [(core[2], inside)]


def well_formed(core, known):
    """Tell whether a tree is well formed where the variables of a list or tuple are known."""
    rest = [(core, {number: True for number in known}, 1)]
    while rest:
        tree, variables, depth = rest.pop()
        if depth > DEEPEST_PART or not is_sound(tree):
            return False
        if tree[0] == "local" and tree[1] not in variables:
            return False
        rest.extend([(part, inside, depth + 1) for part, inside in inner_trees(tree, variables)])
    return True


def core_to_datum(core):
    """Return the datum of a tree."""
    word = core[0]
    if word == "int":
        return core[1]
    if word == "fn":
        return ["fn", list(core[1]), core_to_datum(core[2])]
    if word == "let":
        rows = [[number, core_to_datum(part)] for number, part in core[1]]
        return ["let", rows, core_to_datum(core[2])]
    if word == "if":
        return ["if", *[core_to_datum(part) for part in core[1:]]]
    if word == "call":
        return ["call", *[core_to_datum(part) for part in (core[1], *core[2])]]
    return list(core)


def let_rows(rows, depth):
    """Return the pairs of a let, whose parts are at a depth, from their datum."""
    if not isinstance(rows, list):
        raise InvalidCore("the variables of a let are no list")
    pairs = []
    for row in rows:
        if not isinstance(row, list) or len(row) != 2:
            raise InvalidCore("a variable of a let is no list of a number and a part")
        pairs.append((row[0], tree_of(row[1], depth)))
    return tuple(pairs)


def fn_numbers(numbers):
    """Return the parameters of a fn from their datum."""
    if not isinstance(numbers, list):
        raise InvalidCore("the parameters of a fn are no list")
    return tuple(numbers)


def shape_of(datum, inner):
    """Return the tree of a datum, whose parts lie at a depth; only its own shape is checked."""
    match datum:
        case int():
            return ("int", datum)
        case ["local", number]:
            return ("local", number)
        case ["global", module, name]:
            return ("global", module, name)
        case ["prim", name]:
            return ("prim", name)
        case ["fn", numbers, body]:
            return ("fn", fn_numbers(numbers), tree_of(body, inner))
        case ["let", rows, body]:
            return ("let", let_rows(rows, inner), tree_of(body, inner))
        case ["if", test, yes, no]:
            return ("if", tree_of(test, inner), tree_of(yes, inner), tree_of(no, inner))
        case ["call", function, *parts]:
            return ("call", tree_of(function, inner), tuple([tree_of(part, inner) for part in parts]))
    raise InvalidCore("no tree has such a datum")


def tree_of(datum, depth):
    """Return the tree, at a depth, of a datum."""
    if depth > DEEPEST_PART:
        raise InvalidCore(f"a part deeper than {DEEPEST_PART}")
    core = shape_of(datum, depth + 1)
    if not is_sound(core):
        raise InvalidCore("a number, name or word that no tree has")
    return core


def datum_to_core(datum):
    """Return the tree of a datum."""
    return tree_of(datum, 1)
