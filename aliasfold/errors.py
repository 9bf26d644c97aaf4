"""The errors that Aliasfold raises."""


class FoldError(ValueError):
    """The base class of all errors that the program raises."""


class UnexpectedEnd(FoldError):
    """A text ends within a list; `at` is the length of the text."""

    def __init__(self, at):
        FoldError.__init__(self, f"the text ends within a list, at {at}")
        self.at = at


class UnexpectedClose(FoldError):
    """A `)` without a `(`; `at` is its index."""

    def __init__(self, at):
        FoldError.__init__(self, f"a ) without a (, at {at}")
        self.at = at


class InvalidWord(FoldError):
    """A word that is neither an integer nor a symbol; `at` is the index of its first character."""

    def __init__(self, at):
        FoldError.__init__(self, f"neither an integer nor a symbol, at {at}")
        self.at = at


class TooDeep(FoldError):
    """Something lies deeper than the document allows."""


class TooLarge(FoldError):
    """Something has more parts, or takes more work, than the document allows."""


class InvalidCore(FoldError):
    """A datum that is not the datum of a core tree."""


class InvalidUnit(FoldError):
    """A text that is not the text of a unit."""


class InvalidForm(FoldError):
    """A form that is malformed."""


class InvalidRule(FoldError):
    """A macro that is malformed."""


class ModuleRing(FoldError):
    """Modules that import one another in a ring."""


class UnknownName(FoldError):
    """A symbol without a meaning; `name` is the symbol."""

    def __init__(self, name):
        FoldError.__init__(self, f"{name} has no meaning here")
        self.name = name


class DuplicateName(FoldError):
    """A name that is given twice; `name` is the name."""

    def __init__(self, name):
        FoldError.__init__(self, f"{name} is given twice")
        self.name = name


class MisusedName(FoldError):
    """A special form or a macro that is not the first of a list; `name` is its symbol."""

    def __init__(self, name):
        FoldError.__init__(self, f"{name} stands where a value is asked for")
        self.name = name


class NoMatchingRule(FoldError):
    """A macro call that no rule matches; `name` is the symbol of the macro."""

    def __init__(self, name):
        FoldError.__init__(self, f"no rule of {name} matches this call")
        self.name = name


class OutOfFuel(FoldError):
    """A module makes too many macro calls; `name` is the symbol of the next macro."""

    def __init__(self, name):
        FoldError.__init__(self, f"too many macro calls, the next one of {name}")
        self.name = name


class UnknownModule(FoldError):
    """A module that is not there; `name` is its name."""

    def __init__(self, name):
        FoldError.__init__(self, f"there is no module {name}")
        self.name = name
