"""The errors of the package; each keeps what it was given, untouched."""


class AgeError(ValueError):
    """The base of the errors about machines, logs, copies, texts and limits."""


class BadMachine(AgeError):
    """A value is no machine's tables; `at` tells where."""

    def __init__(self, at):
        self.at = at


class BadLog(AgeError):
    """A value is no log of the machine; `at` tells where."""

    def __init__(self, at):
        self.at = at


class BadCopy(AgeError):
    """A value tells no copy; `at` tells which."""

    def __init__(self, at):
        self.at = at


class BadText(AgeError):
    """A text has not the form that is asked for; `at` tells where."""

    def __init__(self, at):
        self.at = at


class Refused(AgeError):
    """A value is not one that is taken here; `at` is that value."""

    def __init__(self, at):
        self.at = at


class TooGreat(AgeError):
    """There is more than `most`."""

    def __init__(self, most):
        self.most = most


class NoState(KeyError):
    """A value is no state of the machine."""

    def __init__(self, state):
        self.state = state


class NoDeed(KeyError):
    """A value is no deed of the machine."""

    def __init__(self, deed):
        self.deed = deed
