"""The values of programs, and how an outcome shows them (points 6.1 and 6.6 of the document)."""

MOST_PAIRS = 300
MOST_AROUND = 59


class Pair:
    """A pair of values."""

    def __init__(self, first, second):
        self.first = first
        self.second = second


class Function:
    """A function with a tree or a code as its body, and the values that it keeps."""

    def __init__(self, parameters, body, kept):
        self.parameters = parameters
        self.body = body
        self.kept = kept


class Primitive:
    """A primitive, which is a function without a body."""

    def __init__(self, name):
        self.parameters = 1 if name in ("first", "second") else 2
        self.name = name


class Showing:
    """Shows one value, and counts the pairs of it that it has shown."""

    def __init__(self):
        self.pairs = 0

    def show(self, value, around):
        """Return how a value is shown that lies in a number of pairs; this is never deep."""
        if isinstance(value, int):
            return value
        if not isinstance(value, Pair):
            return "fn"
        if around > MOST_AROUND or self.pairs == MOST_PAIRS:
            return "more"
        self.pairs += 1
        # The first value stands ahead of the second, so its pairs are counted ahead, too.
        first = self.show(value.first, around + 1)
        second = self.show(value.second, around + 1)
        return ("pair", first, second)


def shown(value):
    """Return how the outcome of a program shows a value."""
    showing = Showing()
    return showing.show(value, 0)
