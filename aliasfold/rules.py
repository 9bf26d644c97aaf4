"""The rules of macros: which are well formed (point 3.6 of the document)."""

from aliasfold.errors import DuplicateName, InvalidRule, TooDeep, TooLarge
from aliasfold.names import DOTS, can_be_bound, is_word, written

MOST_LISTS = 60
MOST_DATA = 500


def check_size(rule):
    """Check how many data a rule has, and how deep they lie."""
    many = 0
    # The data that are still to be met, the next one last, each with the number of lists around it.
    rest = [(rule, 0)]
    while rest:
        datum, around = rest.pop()
        many += 1
        if around > MOST_LISTS:
            raise TooDeep(f"a datum of a rule in more than {MOST_LISTS} lists")
        if many > MOST_DATA:
            raise TooLarge(f"a rule of more than {MOST_DATA} data")
        if isinstance(datum, list):
            rest.extend([(part, around + 1) for part in datum[::-1]])


def words_of(datum):
    """Return the symbols that stand in a datum."""
    found = []
    rest = [datum]
    while rest:
        part = rest.pop()
        if isinstance(part, list):
            rest.extend(part)
        elif is_word(part):
            found.append(part)
    return found


def is_variable(part, literals):
    """Tell whether an element of a pattern is a variable; a dict has the literals."""
    return is_word(part) and part not in literals


def ends_with_dots(pattern):
    """Tell whether a list of a pattern has an element that is repeated."""
    return len(pattern) > 1 and pattern[-1] == DOTS


def pattern_parts(pattern, repeated):
    """Return the elements of a list of a pattern, each with whether it is repeated or in a repeated one."""
    parts = [(part, repeated) for part in pattern]
    if ends_with_dots(pattern):
        if repeated:
            raise InvalidRule("a repeated element within another one in a pattern")
        parts = [*parts[:-2], (pattern[-2], True)]
    if any(part == DOTS for part, inside in parts):
        raise InvalidRule("dots in a pattern that are not behind its last but one element")
    return parts


def pattern_variables(pattern, literals):
    """Return the variables of a pattern, in a dict that tells whether they are repeated."""
    variables = {}
    rest = [(pattern, False)]
    while rest:
        part, repeated = rest.pop()
        if isinstance(part, list):
            rest.extend(pattern_parts(part, repeated)[::-1])
        elif is_variable(part, literals):
            if part in variables:
                raise DuplicateName(written(part))
            variables[part] = repeated
    return variables


def template_parts(template):
    """Return the elements of a list of a template but the dots, each with whether dots follow it."""
    parts = []
    for part in template:
        if part != DOTS:
            parts.append((part, False))
        elif not parts or parts[-1][1]:
            raise InvalidRule("dots in a template that are not behind an element")
        else:
            parts[-1] = (parts[-1][0], True)
    return parts


def check_repeated(part, inside, variables):
    """Check an element of a template that dots follow; `inside` tells whether it lies within such an element."""
    if inside:
        raise InvalidRule("a repeated element within another one in a template")
    if not any(variables.get(word, False) for word in words_of(part)):
        raise InvalidRule("a repeated element of a template without a repeated variable")


def check_template(template, variables):
    """Check a template by the variables of its pattern."""
    rest = [(template, False)]
    while rest:
        part, inside = rest.pop()
        if isinstance(part, list):
            for inner, repeated in template_parts(part):
                if repeated:
                    check_repeated(inner, inside, variables)
                rest.append((inner, inside or repeated))
        elif part == DOTS:
            raise InvalidRule("a template that is dots alone")
        elif not inside and variables.get(part, False):
            raise InvalidRule("a repeated variable outside of a repeated element of a template")


def checked_rule(rule, literals):
    """Return the pattern and the template of a rule."""
    check_size(rule)
    if not isinstance(rule, list) or len(rule) != 2 or not isinstance(rule[0], list):
        raise InvalidRule("a rule that is no list of a pattern and a template")
    check_template(rule[1], pattern_variables(rule[0], literals))
    return rule[0], rule[1]


def macro_parts(macro):
    """Return the name, the list of the literals, and the list of the rules of a macro."""
    if not isinstance(macro, list) or len(macro) < 3:
        raise InvalidRule("a macro that is no list of a name, literals and rules")
    name, literals, *rules = macro
    if not can_be_bound(name):
        raise InvalidRule("a macro without a name")
    if not isinstance(literals, list) or not all(can_be_bound(literal) for literal in literals):
        raise InvalidRule("the literals of a macro are no list of symbols")
    known = {literal: True for literal in literals}
    return name, list(literals), [checked_rule(rule, known) for rule in rules]
