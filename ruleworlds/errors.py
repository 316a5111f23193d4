"""The errors of the package, each with the field that tells what was wrong."""


class RuleError(ValueError):
    """The base class of all errors of the package."""


class InvalidRule(RuleError):
    """The thing at this place is not a rule."""

    def __init__(self, place=None):
        self.place = place


class NotAProgram(RuleError):
    """This thing is not a program."""

    def __init__(self, thing=None):
        self.thing = thing


class InvalidWorld(RuleError):
    """This thing is not a set of names, or not one that is possible here."""

    def __init__(self, thing=None):
        self.thing = thing


class InvalidPair(RuleError):
    """This thing is not a pair of worlds, or not one that is possible here."""

    def __init__(self, thing=None):
        self.thing = thing


class InvalidNames(RuleError):
    """This thing is not a name, or not a tuple or list of names."""

    def __init__(self, thing=None):
        self.thing = thing


class Unreadable(RuleError):
    """The line of this number is not a written rule."""

    def __init__(self, line=None):
        self.line = line


class InvalidKind(RuleError):
    """This value is none of the words that are possible here."""

    def __init__(self, value=None):
        self.value = value


class Barred(RuleError):
    """The pairs come of no program of the kind, and this is why."""

    def __init__(self, why=None):
        self.why = why


class NotBasic(RuleError):
    """The program is not basic because of this rule."""

    def __init__(self, culprit=None):
        self.culprit = culprit


class NotASplit(RuleError):
    """This set of names does not split the program."""

    def __init__(self, thing=None):
        self.thing = thing


class NoSuchSheet(RuleError):
    """The desk has no sheet of this name."""

    def __init__(self, sheet=None):
        self.sheet = sheet


class InvalidDeed(RuleError):
    """The deed at this place is none, or is refused."""

    def __init__(self, place=None):
        self.place = place


class NoAnswer(RuleError):
    """The program has no answer."""


class NothingToUndo(RuleError):
    """No step is left to take back."""
