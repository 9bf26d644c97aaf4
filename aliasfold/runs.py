"""What the plain meaning and the stack machine have in common: calls, errors and steps (part 6 of the document)."""

from aliasfold.errors import FoldError
from aliasfold.values import Function, Pair, Primitive, shown

GREATEST_RESULT = 10 ** 60


class Ended(FoldError):
    """A program ends without a value; `outcome` tells how. No caller of the package meets it."""

    def __init__(self, outcome):
        FoldError.__init__(self, "the program ends without a value")
        self.outcome = outcome


class Run:
    """A run of a program. The classes below this one carry out one tree or code by their `carry_out`."""

    def __init__(self, most):
        self.most = most
        self.steps = 0
        self.defined = {}

    def count_step(self):
        """Begin one more step."""
        if self.steps >= self.most:
            raise Ended(("steps",))
        self.steps += 1

    def definition(self, module, name):
        """Return the value of a definition."""
        if (module, name) not in self.defined:
            raise Ended(("error", "early"))
        return self.defined[(module, name)]

    def carry_out_program(self, definitions, last):
        """Carry out the definitions and then the last tree or code, and return the outcome."""
        try:
            for module, name, body in definitions:
                self.defined[(module, name)] = self.carry_out(body)
            return ("value", shown(self.carry_out(last)))
        except Ended as end:
            return end.outcome


def take_last(stack, many):
    """Take the last values of a stack away, and return them in their order."""
    at = len(stack) - many
    taken = stack[at:]
    del stack[at:]
    return taken


def check_call(called, parts):
    """Check that a value is a function which takes as many values as the parts are."""
    if not isinstance(called, (Function, Primitive)):
        raise Ended(("error", "kind"))
    if called.parameters != len(parts):
        raise Ended(("error", "count"))


def half(name, value):
    """Return the value that `first` or `second` gives."""
    if not isinstance(value, Pair):
        raise Ended(("error", "kind"))
    return value.first if name == "first" else value.second


def reckon(name, left, right):
    """Return what a primitive makes of two integers."""
    if name == "<":
        return 1 if left < right else 0
    if name == "=":
        return 1 if left == right else 0
    if name == "+":
        result = left + right
    elif name == "-":
        result = left - right
    else:
        result = left * right
    if abs(result) > GREATEST_RESULT:
        raise Ended(("error", "size"))
    return result


def call_primitive(name, parts):
    """Return what a primitive makes of as many values as it takes."""
    if name == "pair":
        return Pair(parts[0], parts[1])
    if name in ("first", "second"):
        return half(name, parts[0])
    if not all(isinstance(part, int) for part in parts):
        raise Ended(("error", "kind"))
    return reckon(name, parts[0], parts[1])
