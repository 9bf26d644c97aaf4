"""Code: compiling core trees for the stack machine (points 7.1 to 7.4 of the document)."""

from aliasfold.core import inner_trees


class Draft:
    """The code of one function while it is written.

    Its instructions have numbers of drafts in place of the codes of functions, and labels in place of
    the instructions that jumps lead to. Both are replaced when all drafts of a tree are written.
    """

    def __init__(self, parameters, body, scope):
        self.parameters = parameters
        self.places = parameters
        self.body = body
        # The sources of the variables that are known in the body, by their numbers.
        self.scope = scope
        self.instructions = []
        self.targets = []

    def new_places(self, many):
        """Return the first of so many places that nothing else uses."""
        first = self.places
        self.places += many
        return first

    def new_label(self):
        """Return a label that stands nowhere yet."""
        self.targets.append(None)
        return len(self.targets) - 1


def outer_numbers(core):
    """Return the numbers of the variables from around a tree that stand in it, each once."""
    found = {}
    rest = [(core, {})]
    while rest:
        tree, bound = rest.pop()
        if tree[0] == "local" and tree[1] not in bound:
            found[tree[1]] = True
        rest.extend(inner_trees(tree, bound)[::-1])
    return list(found)


def draft_function(drafts, core, scope):
    """Add the draft of a function to the drafts, and return the instruction that makes it."""
    kept = outer_numbers(core)
    inside = {number: ("kept", at) for at, number in enumerate(kept)}
    for at, number in enumerate(core[1]):
        inside[number] = ("place", at)
    drafts.append(Draft(len(core[1]), core[2], inside))
    return ("fn", len(drafts) - 1, tuple([scope[number] for number in kept]))


def leaf_pieces(instruction, last):
    """Return the pieces of a tree that one instruction carries out.

    A piece is ("write", instruction), ("label", label), or a tree that is still to be compiled:
    ("tree", tree, scope, last), where `last` tells whether what carries it out ends with it.
    """
    if last:
        return [("write", instruction), ("write", ("end",))]
    return [("write", instruction)]


def let_pieces(draft, core, scope, last):
    """Return the pieces of a let."""
    first = draft.new_places(len(core[1]))
    inside = dict(scope)
    pieces = []
    for at, (number, part) in enumerate(core[1]):
        inside[number] = ("place", first + at)
        pieces.append(("tree", part, scope, False))
        pieces.append(("write", ("put", first + at)))
    pieces.append(("tree", core[2], inside, last))
    return pieces


def if_pieces(draft, core, scope, last):
    """Return the pieces of an if."""
    no = draft.new_label()
    pieces = [("tree", core[1], scope, False), ("write", ("unless", no)), ("tree", core[2], scope, last)]
    other = [("label", no), ("tree", core[3], scope, last)]
    # A last part leaves the frame by itself, so nothing has to lead around the other part.
    if last:
        return pieces + other
    behind = draft.new_label()
    return [*pieces, ("write", ("jump", behind)), *other, ("label", behind)]


def call_pieces(core, scope, last):
    """Return the pieces of a call."""
    word = "tail" if last else "call"
    trees = [("tree", part, scope, False) for part in (core[1], *core[2])]
    return trees + [("write", (word, len(core[2])))]


def tree_pieces(drafts, draft, core, scope, last):
    """Return the pieces of a tree, in the order of the code."""
    word = core[0]
    if word == "let":
        return let_pieces(draft, core, scope, last)
    if word == "if":
        return if_pieces(draft, core, scope, last)
    if word == "call":
        return call_pieces(core, scope, last)
    if word == "fn":
        return leaf_pieces(draft_function(drafts, core, scope), last)
    if word == "local":
        return leaf_pieces(scope[core[1]], last)
    # All other trees are written as their instructions are.
    return leaf_pieces(core, last)


def write_draft(drafts, draft):
    """Write the instructions of a draft; the functions in it become drafts behind it."""
    # The pieces that are still to be written, the next one last: deep trees need no recursion.
    rest = [("tree", draft.body, draft.scope, True)]
    while rest:
        piece = rest.pop()
        if piece[0] == "write":
            draft.instructions.append(piece[1])
        elif piece[0] == "label":
            draft.targets[piece[1]] = len(draft.instructions)
        else:
            rest.extend(tree_pieces(drafts, draft, piece[1], piece[2], piece[3])[::-1])


def final_instruction(draft, codes, instruction):
    """Return an instruction of a draft with the code or the number that it stands for."""
    word = instruction[0]
    if word == "fn":
        return ("fn", codes[instruction[1]], instruction[2])
    if word in ("jump", "unless"):
        return (word, draft.targets[instruction[1]])
    return instruction


def final_code(draft, codes):
    """Return the code of a draft; the codes have those of the functions in it."""
    instructions = tuple([final_instruction(draft, codes, part) for part in draft.instructions])
    return ("code", draft.parameters, draft.places, instructions)


def compile_core(core):
    """Return the code of a tree."""
    drafts = [Draft(0, core, {})]
    written = 0
    while written < len(drafts):
        write_draft(drafts, drafts[written])
        written += 1
    codes = {}
    # A function's draft stands behind the one that it stands in, so its code is there in time.
    for at in reversed(range(len(drafts))):
        codes[at] = final_code(drafts[at], codes)
    return codes[0]
