"""The stack machine (part 7 of the document)."""

from aliasfold.runs import Run, call_primitive, check_call, take_last
from aliasfold.values import Function, Primitive


class Frame:
    """A call of a function, or a definition or the last code of a program, that is carried out."""

    def __init__(self, code, parts, kept):
        self.instructions = code[3]
        # The number of the next instruction.
        self.at = 0
        self.places = parts + [0] * (code[2] - len(parts))
        self.stack = []
        self.kept = kept

    def read(self, source):
        """Return the value of a source."""
        if source[0] == "place":
            return self.places[source[1]]
        return self.kept[source[1]]


def put_int(_, frame, instruction):
    """Put an integer on the stack."""
    frame.stack.append(instruction[1])


def put_prim(_, frame, instruction):
    """Put a primitive on the stack."""
    frame.stack.append(Primitive(instruction[1]))


def put_global(machine, frame, instruction):
    """Put the value of a definition on the stack."""
    frame.stack.append(machine.definition(instruction[1], instruction[2]))


def put_source(_, frame, instruction):
    """Put the value of a place, or one that the function keeps, on the stack."""
    frame.stack.append(frame.read(instruction))


def put_function(_, frame, instruction):
    """Put a function on the stack that keeps the values of its sources."""
    code = instruction[1]
    kept = [frame.read(source) for source in instruction[2]]
    frame.stack.append(Function(code[1], code, kept))


def fill_place(_, frame, instruction):
    """Take a value away into a place."""
    frame.places[instruction[1]] = frame.stack.pop()


def jump(_, frame, instruction):
    """Go on at another instruction."""
    frame.at = instruction[1]


def jump_unless(_, frame, instruction):
    """Take a value away, and go on at another instruction if it is the integer 0."""
    if frame.stack.pop() == 0:
        frame.at = instruction[1]


def call(machine, frame, instruction):
    """Call a function."""
    parts = take_last(frame.stack, instruction[1])
    machine.enter(frame.stack.pop(), parts)


def tail_call(machine, frame, instruction):
    """Call a function in place of the frame."""
    parts = take_last(frame.stack, instruction[1])
    machine.frames.pop()
    machine.enter(frame.stack.pop(), parts)


def leave(machine, frame, _):
    """Leave the frame with the top of the stack."""
    machine.frames.pop()
    machine.give(frame.stack.pop())


ACTIONS = {
    "int": put_int,
    "prim": put_prim,
    "global": put_global,
    "place": put_source,
    "kept": put_source,
    "fn": put_function,
    "put": fill_place,
    "jump": jump,
    "unless": jump_unless,
    "call": call,
    "tail": tail_call,
    "end": leave,
}


class Machine(Run):
    """A run of a program on the stack machine."""

    def __init__(self, most):
        Run.__init__(self, most)
        # The frame that is carried out is the last one, the one that called it stands ahead of it.
        self.frames = []
        self.most_frames = 0
        # The value with which the last frame was left.
        self.result = None

    def add_frame(self, code, parts, kept):
        """Add a frame, which is carried out next."""
        self.frames.append(Frame(code, parts, kept))
        self.most_frames = max(self.most_frames, len(self.frames))

    def enter(self, called, parts):
        """Call a value with others."""
        check_call(called, parts)
        if isinstance(called, Primitive):
            self.give(call_primitive(called.name, parts))
        else:
            self.add_frame(called.body, parts, called.kept)

    def give(self, value):
        """Give a value to the frame that waits for it."""
        if self.frames:
            self.frames[-1].stack.append(value)
        else:
            self.result = value

    def carry_out(self, code):
        """Carry out a code outside of all functions, and return its value."""
        self.add_frame(code, [], [])
        while self.frames:
            self.count_step()
            frame = self.frames[-1]
            instruction = frame.instructions[frame.at]
            frame.at += 1
            action = ACTIONS[instruction[0]]
            action(self, frame, instruction)
        return self.result


def run_code(definitions, code, most):
    """Return the outcome of a program, the number of steps, and the greatest number of frames at a moment."""
    machine = Machine(most)
    outcome = machine.carry_out_program(definitions, code)
    return outcome, machine.steps, machine.most_frames
