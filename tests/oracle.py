"""The plain meaning once more, for the tests: as short as it can be, and for small programs alone.

It calls itself for each part, so it follows part 6 of the document word by word.
"""

PARAMETERS = {"+": 2, "-": 2, "*": 2, "<": 2, "=": 2, "pair": 2, "first": 1, "second": 1}


class Stop(Exception):
    """Ends a program; its argument is the outcome."""


def reckon(name, a, b):
    if name in "<=":
        return int(a < b) if name == "<" else int(a == b)
    result = {"+": a + b, "-": a - b, "*": a * b}[name]
    if not -10 ** 60 <= result <= 10 ** 60:
        raise Stop(("error", "size"))
    return result


def is_pair(value):
    return isinstance(value, tuple) and value[0] == "pair"


def apply(name, values):
    if len(values) != PARAMETERS[name]:
        raise Stop(("error", "count"))
    if name == "pair":
        return ("pair", *values)
    if name in ("first", "second"):
        if not is_pair(values[0]):
            raise Stop(("error", "kind"))
        return values[0][1 if name == "first" else 2]
    if any(type(value) is not int for value in values):
        raise Stop(("error", "kind"))
    return reckon(name, *values)


class Oracle:
    def __init__(self, most):
        self.most, self.steps, self.globals = most, 0, {}

    def of(self, tree, env):
        if self.steps == self.most:
            raise Stop(("steps",))
        self.steps += 1
        return getattr(self, "of_" + tree[0])(env, *tree[1:])

    def of_int(self, env, k):
        return k

    def of_local(self, env, n):
        return env[n]

    def of_prim(self, env, name):
        return ("prim", name)

    def of_global(self, env, module, name):
        if (module, name) not in self.globals:
            raise Stop(("error", "early"))
        return self.globals[module, name]

    def of_fn(self, env, numbers, body):
        return ("fn", numbers, body, env)

    def of_let(self, env, rows, body):
        values = [self.of(part, env) for _, part in rows]
        return self.of(body, {**env, **dict(zip([n for n, _ in rows], values))})

    def of_if(self, env, test, yes, no):
        value = self.of(test, env)
        return self.of(no if type(value) is int and value == 0 else yes, env)

    def of_call(self, env, function, parts):
        called = self.of(function, env)
        values = [self.of(part, env) for part in parts]
        if type(called) is int or called[0] == "pair":
            raise Stop(("error", "kind"))
        if called[0] == "prim":
            return apply(called[1], values)
        if len(values) != len(called[1]):
            raise Stop(("error", "count"))
        return self.of(called[2], {**called[3], **dict(zip(called[1], values))})


def show(value):
    """For values of few pairs."""
    if type(value) is int:
        return value
    return ("pair", show(value[1]), show(value[2])) if is_pair(value) else "fn"


def outcome_of(definitions, core, most):
    oracle = Oracle(most)
    try:
        for module, name, tree in definitions:
            oracle.globals[module, name] = oracle.of(tree, {})
        return ("value", show(oracle.of(core, {}))), oracle.steps
    except Stop as stop:
        return stop.args[0], oracle.steps
