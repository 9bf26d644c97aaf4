"""The plain meaning of programs (part 6 of the document)."""

from aliasfold.core import bound_numbers
from aliasfold.runs import Run, call_primitive, check_call, take_last
from aliasfold.values import Function, Primitive


def with_variables(variables, numbers, results):
    """Return a dict of variables to which others with these numbers and values are added."""
    inside = dict(variables)
    for number, result in zip(numbers, results):
        inside[number] = result
    return inside


def begin_int(run, core, _):
    """Give an integer."""
    run.results.append(core[1])


def begin_local(run, core, variables):
    """Give the value of a variable."""
    run.results.append(variables[core[1]])


def begin_global(run, core, _):
    """Give the value of a definition."""
    run.results.append(run.definition(core[1], core[2]))


def begin_prim(run, core, _):
    """Give a primitive."""
    run.results.append(Primitive(core[1]))


def begin_fn(run, core, variables):
    """Give a function that keeps the variables around it."""
    run.results.append(Function(len(core[1]), core, variables))


def begin_let(run, core, variables):
    """Plan the parts of a let, then its body."""
    run.todo.append((end_let, core, variables))
    run.todo.extend([(begin, part, variables) for number, part in core[1][::-1]])


def end_let(run, core, variables):
    """Plan the body of a let, the parts of which are carried out."""
    results = take_last(run.results, len(core[1]))
    run.todo.append((begin, core[2], with_variables(variables, bound_numbers(core), results)))


def begin_if(run, core, variables):
    """Plan the test of an if, then the choice."""
    run.todo.append((end_if, core, variables))
    run.todo.append((begin, core[1], variables))


def end_if(run, core, variables):
    """Plan the part of an if that its test chooses."""
    chosen = core[3] if run.results.pop() == 0 else core[2]
    run.todo.append((begin, chosen, variables))


def begin_call(run, core, variables):
    """Plan the function and the parts of a call, then the call itself."""
    run.todo.append((end_call, core, variables))
    run.todo.extend([(begin, part, variables) for part in core[2][::-1]])
    run.todo.append((begin, core[1], variables))


def end_call(run, core, _):
    """Call a function, which is carried out together with its parts."""
    parts = take_last(run.results, len(core[2]))
    called = run.results.pop()
    check_call(called, parts)
    if isinstance(called, Primitive):
        run.results.append(call_primitive(called.name, parts))
        return
    inside = with_variables(called.kept, bound_numbers(called.body), parts)
    run.todo.append((begin, called.body[2], inside))


BEGINNINGS = {
    "int": begin_int,
    "local": begin_local,
    "global": begin_global,
    "prim": begin_prim,
    "fn": begin_fn,
    "let": begin_let,
    "if": begin_if,
    "call": begin_call,
}


def begin(run, core, variables):
    """Begin a tree, which is one step."""
    run.count_step()
    action = BEGINNINGS[core[0]]
    action(run, core, variables)


class PlainRun(Run):
    """A run of a program by its plain meaning; calls of the program are no calls of Python's own."""

    def __init__(self, most):
        Run.__init__(self, most)
        # What is still to be done, the next one last: a function of this file, a tree and its variables.
        self.todo = []
        # The values that are not used yet, the newest last.
        self.results = []

    def carry_out(self, core):
        """Carry out a tree outside of all functions, and return its value."""
        self.todo.append((begin, core, {}))
        while self.todo:
            action, tree, variables = self.todo.pop()
            action(self, tree, variables)
        return self.results.pop()


def run_plain(definitions, core, most):
    """Return the outcome of a program, and the number of steps that were begun."""
    run = PlainRun(most)
    outcome = run.carry_out_program(definitions, core)
    return outcome, run.steps
