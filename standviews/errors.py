"""The refusals: one class for each kind, all straight under ViewError."""


class ViewError(ValueError):
    """What every refusal is."""


# The errors with a value hand a message of their own on: Python would else
# show the value, and not every value can be shown.


class NoDeal(ViewError):
    """A dealing is refused, at its change of the number `at`."""

    def __init__(self, at):
        super().__init__("no dealing")
        self.at = at


class NoPerson(ViewError):
    """`person` is no name."""

    def __init__(self, person):
        super().__init__("no person")
        self.person = person


class NoWatcher(ViewError):
    """`w` is no number of one that watches."""

    def __init__(self, w):
        super().__init__("no watcher")
        self.w = w


class NoText(ViewError):
    """A text is refused, at its row of the number `row`."""

    def __init__(self, row):
        super().__init__("no text")
        self.row = row


class NoLetter(ViewError):
    """`i` is no place of a letter on the road."""

    def __init__(self, i):
        super().__init__("no letter")
        self.i = i


class NoPlan(ViewError):
    """What is handed in is no plan."""


class NoPiece(ViewError):
    """No such piece is needed or kept."""


class NoRight(ViewError):
    """What is handed in is no right of a table of the plan."""


class NoQuestion(ViewError):
    """What is handed in is no questions of the plan."""


class Full(ViewError):
    """The road has no room."""


class NoMoment(ViewError):
    """No such moment is kept."""


class NoPaper(ViewError):
    """The house would send no such letter."""


class NoEntry(ViewError):
    """What is handed in is no entry."""


class NoScript(ViewError):
    """What is handed in is no script."""


class NoLine(ViewError):
    """What is handed in is no line."""
