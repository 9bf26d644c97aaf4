"""What the expansion of one module may do at most (point 4.5 of the document)."""

from aliasfold.errors import OutOfFuel, TooDeep, TooLarge

MOST_CALLS = 300
MOST_EXPRESSIONS = 20000
MOST_TRANSCRIBED = 50000
MOST_HELD = 60000
DEEPEST_EXPRESSION = 60


class Counts:
    """What the expansion of one module has done so far."""

    def __init__(self):
        self.calls = 0
        self.expressions = 0
        self.transcribed = 0
        self.held = 0

    def count_call(self, name):
        """Count a macro call, of a macro with this name."""
        if self.calls >= MOST_CALLS:
            raise OutOfFuel(name)
        self.calls += 1

    def count_expression(self, depth):
        """Count an expression that lies so deep."""
        if depth > DEEPEST_EXPRESSION:
            raise TooDeep(f"an expression more than {DEEPEST_EXPRESSION} deep")
        if self.expressions >= MOST_EXPRESSIONS:
            raise TooLarge(f"more than {MOST_EXPRESSIONS} expressions")
        self.expressions += 1

    def count_transcribed(self):
        """Count an element of a list of a transcribed template."""
        if self.transcribed >= MOST_TRANSCRIBED:
            raise TooLarge(f"transcribed templates of more than {MOST_TRANSCRIBED} parts")
        self.transcribed += 1

    def count_held(self):
        """Count a datum that is held against a part of a pattern."""
        if self.held >= MOST_HELD:
            raise TooLarge(f"more than {MOST_HELD} data held against patterns")
        self.held += 1
