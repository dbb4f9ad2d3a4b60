"""The errors of the package, each with the values that tell what was wrong."""


class RuleError(ValueError):
    """What all errors of the package are."""


class NoName(RuleError):
    """A string that is no NAME, or none of those that may stand there."""

    def __init__(self, value):
        self.value = value


class BadText(RuleError):
    """A text in which nothing that is asked for is written: the place tells where this shows."""

    def __init__(self, place):
        self.place = place


class BadLine(RuleError):
    """A line of a sheet that is no command."""

    def __init__(self, number):
        self.number = number


class Tangled(RuleError):
    """No order keeps all that is known."""


class NoLog(RuleError):
    """There is no log with this number."""

    def __init__(self, number):
        self.number = number


class NoPlace(RuleError):
    """There is no such place."""

    def __init__(self, place):
        self.place = place


class NotDone(RuleError):
    """A log does not do the base."""


class Endless(RuleError):
    """There are longer and longer logs, by this name."""

    def __init__(self, name):
        self.name = name


class NoWay(RuleError):
    """Nothing undoes the base."""


class Twice(RuleError):
    """A name that stands ahead already."""

    def __init__(self, name):
        self.name = name


class NoPerson(RuleError):
    """There is no such person."""

    def __init__(self, name):
        self.name = name


class NoRule(RuleError):
    """There is no such rule."""

    def __init__(self, name):
        self.name = name


class Taken(RuleError):
    """There is a person of this name."""

    def __init__(self, name):
        self.name = name


class Stopped(RuleError):
    """An attempt that went no further than this deed, with the name of its error."""

    def __init__(self, number, word):
        self.number = number
        self.word = word


class NothingDone(RuleError):
    """There is nothing to take back."""


class NotCoarse(RuleError):
    """A name that is not its own coarse name."""

    def __init__(self, name):
        self.name = name


class Gainsaid(RuleError):
    """An answer about this log with which no base fits any more."""

    def __init__(self, log):
        self.log = log


class NoBadge(RuleError):
    """There is no such badge."""

    def __init__(self, name):
        self.name = name
