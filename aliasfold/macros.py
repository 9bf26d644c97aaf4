"""Macro calls: matching patterns and transcribing templates (points 3.2 to 3.4 of the document)."""

from aliasfold.errors import NoMatchingRule
from aliasfold.names import NewName, is_word, meaning_of, written
from aliasfold.rules import check_template, ends_with_dots, is_variable, pattern_variables, template_parts, words_of


class Macro:
    """A macro: a dict of its literals, a list of pairs (pattern, template), and the scope of its definition."""

    def __init__(self, literals, rules, scope):
        self.literals = literals
        self.rules = rules
        self.scope = scope


class Match:
    """What the variables of a pattern stand for: a datum, or a list of data if they are repeated."""

    def __init__(self):
        self.single = {}
        self.repeated = {}

    def keep(self, name, datum, repeated):
        """Keep a datum for which a variable stands, or one of the data if it is repeated."""
        if repeated:
            self.repeated.setdefault(name, []).append(datum)
        else:
            self.single[name] = datum


def means_literal(macro, literal, datum, scope):
    """Tell whether a datum of a scope is a symbol that a literal of a macro matches."""
    if not is_word(datum):
        return False
    wanted = meaning_of(literal, macro.scope)
    given = meaning_of(datum, scope)
    if wanted is None and given is None:
        return written(datum) == written(literal)
    return given == wanted


def matches_constant(macro, part, datum, scope):
    """Tell whether a datum of a scope matches an integer or a literal of a pattern."""
    if isinstance(part, int):
        return datum == part
    return means_literal(macro, part, datum, scope)


def held_parts(pattern, datum, repeated):
    """Return what is held against what if a datum is held against a list, or None if it does not match."""
    if not isinstance(datum, list):
        return None
    if not ends_with_dots(pattern):
        if len(datum) != len(pattern):
            return None
        return [(part, inner, repeated) for part, inner in zip(pattern, datum)]
    first = len(pattern) - 2
    if len(datum) < first:
        return None
    further = [(pattern[first], inner, True) for inner in datum[first:]]
    return further + [(part, inner, repeated) for part, inner in zip(pattern[:first], datum)]


def match_pattern(counts, macro, pattern, datum, scope):
    """Return what the variables of a pattern stand for if a datum of a scope matches it, otherwise None."""
    found = Match()
    # What is still to be held, the next one last: a part, a datum, and whether the part is repeated.
    rest = [(pattern, datum, False)]
    while rest:
        part, inner, repeated = rest.pop()
        counts.count_held()
        if isinstance(part, list):
            parts = held_parts(part, inner, repeated)
            if parts is None:
                return None
            rest.extend(parts[::-1])
        elif is_variable(part, macro.literals):
            found.keep(part, inner, repeated)
        elif not matches_constant(macro, part, inner, scope):
            return None
    return found


class Transcription:
    """The transcription of the template that one macro call uses."""

    def __init__(self, counts, scope, found):
        self.counts = counts
        self.scope = scope
        self.found = found
        # The names that the call inserts, by the symbols of the template.
        self.new_names = {}

    def new_name(self, symbol):
        """Return the new name for a symbol of the template."""
        if symbol not in self.new_names:
            self.new_names[symbol] = NewName(symbol, self.scope)
        return self.new_names[symbol]

    def leaf(self, part, copy_number):
        """Return what an integer or a symbol of the template becomes in a copy of a repeated element."""
        if isinstance(part, int):
            return part
        if part in self.found.single:
            return self.found.single[part]
        if part in self.found.repeated:
            return self.found.repeated[part][copy_number]
        return self.new_name(part)

    def copy_numbers(self, part):
        """Return the numbers of the copies of a repeated element."""
        rows = [self.found.repeated[word] for word in words_of(part) if word in self.found.repeated]
        return list(range(min([len(row) for row in rows])))

    def planned(self, template, copy_number, datum):
        """Return what is to be added to the datum of a list of the template."""
        plan = []
        for part, repeated in template_parts(template):
            for number in self.copy_numbers(part) if repeated else [copy_number]:
                self.counts.count_transcribed()
                plan.append((part, number, datum))
        return plan

    def transcribe(self, template):
        """Return the datum of the template."""
        outer = []
        # What is still to be added, the next one last: a part, the number of its copy, and the list it goes to.
        rest = [(template, None, outer)]
        while rest:
            part, number, datum = rest.pop()
            if isinstance(part, list):
                datum.append([])
                rest.extend(self.planned(part, number, datum[-1])[::-1])
            else:
                datum.append(self.leaf(part, number))
        return outer[0]


def transcribe_rule(counts, macro, rule, found):
    """Return what a macro call becomes by a rule whose pattern it matches."""
    pattern, template = rule
    variables = pattern_variables(pattern, macro.literals)
    # The macros of a unit that was read may be any data.
    check_template(template, variables)
    for name in variables:
        if variables[name]:
            # An element that is repeated no time has left no data for its variables.
            found.repeated.setdefault(name, [])
    return Transcription(counts, macro.scope, found).transcribe(template)


def call_macro(counts, macro, call, scope):
    """Return what a macro call in a scope becomes."""
    name = written(call[0])
    rest = call[1:]
    counts.count_call(name)
    for rule in macro.rules:
        found = match_pattern(counts, macro, rule[0], rest, scope)
        if found is not None:
            return transcribe_rule(counts, macro, rule, found)
    raise NoMatchingRule(name)
