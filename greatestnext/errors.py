"""The errors of the package: each keeps what it was given, as it was given."""


class NextError(ValueError):
    """The base of all errors of the package; it is never raised itself."""


class InvalidFraction(NextError):
    """The value is no fraction, or none that can stand here."""

    def __init__(self, value):
        self.value = value


class InvalidProject(NextError):
    """The row of this state is wrong, or with None the rows as a whole."""

    def __init__(self, state):
        self.state = state


class Endless(NextError):
    """No end and no void can be reached from this state."""

    def __init__(self, state):
        self.state = state


class InvalidFamily(NextError):
    """The element at this place is no set of things."""

    def __init__(self, at):
        self.at = at


class NotClosed(NextError):
    """This set is missing from a family."""

    def __init__(self, missing):
        self.missing = missing


class NotNested(NextError):
    """The class at this place overlaps an earlier one."""

    def __init__(self, at):
        self.at = at


class NoExchange(NextError):
    """No thing of the larger set can be added to the smaller one."""

    def __init__(self, smaller, larger):
        self.smaller = smaller
        self.larger = larger


class WrongSize(NextError):
    """There are not as many as there have to be."""

    def __init__(self, many):
        self.many = many


class InvalidStanding(NextError):
    """The value is no standing of the house."""

    def __init__(self, value):
        self.value = value


class InvalidDeed(NextError):
    """This cannot be done."""

    def __init__(self, deed):
        self.deed = deed


class InvalidPlan(NextError):
    """This is no plan for the house."""

    def __init__(self, plan):
        self.plan = plan


class NoEnd(NextError):
    """The project of this thing has a void."""

    def __init__(self, thing):
        self.thing = thing


class InvalidCertificate(NextError):
    """The value does not certify a price."""

    def __init__(self, value):
        self.value = value


class TooMany(NextError):
    """There are more of these than can be dealt with."""

    def __init__(self, what):
        self.what = what


class InvalidText(NextError):
    """This line of the text is wrong, or missing."""

    def __init__(self, value, line):
        self.value = value
        self.line = line


class NothingToUndo(NextError):
    """There is nothing to undo, or to redo."""

    def __init__(self, what):
        self.what = what
