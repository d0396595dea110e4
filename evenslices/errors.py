"""The errors of the package."""


class SliceError(ValueError):
    """The base of all errors of the package."""


class InvalidLoad(SliceError):
    """A value is not a load; index tells which item is wrong, or None."""

    def __init__(self, index):
        super().__init__(f"not a load (index {index})")
        self.index = index


class InvalidPlan(SliceError):
    """A value is not a plan; index tells which tick is wrong, or None."""

    def __init__(self, index):
        super().__init__(f"not a plan (index {index})")
        self.index = index


class InvalidGroups(SliceError):
    """A value is not groups; index tells which list is wrong, or None."""

    def __init__(self, index):
        super().__init__(f"not groups (index {index})")
        self.index = index


class InvalidPairs(SliceError):
    """A value is not pairs; index tells which item is wrong, or None."""

    def __init__(self, index):
        super().__init__(f"not pairs (index {index})")
        self.index = index


class InvalidCounts(SliceError):
    """A value is not counts; index tells which one is wrong, or None."""

    def __init__(self, index):
        super().__init__(f"not counts (index {index})")
        self.index = index


class InvalidCaps(SliceError):
    """A value is not caps; index tells which item is wrong, or None."""

    def __init__(self, index):
        super().__init__(f"not caps (index {index})")
        self.index = index


class InvalidAsleep(SliceError):
    """A value does not tell who is asleep; index tells which item is wrong, or None."""

    def __init__(self, index):
        super().__init__(f"not a list of sleepers (index {index})")
        self.index = index


class InvalidTicks(SliceError):
    """A value is not ticks; index tells which item is wrong, or None."""

    def __init__(self, index):
        super().__init__(f"not ticks (index {index})")
        self.index = index


class InvalidLags(SliceError):
    """A value is not lags; index tells which item is wrong, or None."""

    def __init__(self, index):
        super().__init__(f"not lags (index {index})")
        self.index = index


class InvalidShares(SliceError):
    """A value is not shares; index tells which item is wrong, or None."""

    def __init__(self, index):
        super().__init__(f"not shares (index {index})")
        self.index = index


class InvalidSeen(SliceError):
    """A value is not what was seen; index tells which tick is wrong, or None."""

    def __init__(self, index):
        super().__init__(f"not what was seen (index {index})")
        self.index = index


class InvalidSyntax(SliceError):
    """A value is not such a text; word tells which word is wrong, or None."""

    def __init__(self, word):
        super().__init__(f"not such a text (word {word})")
        self.word = word


class Doomed(SliceError):
    """The processes cannot go on; by is the moment by which they are doomed."""

    def __init__(self, by):
        super().__init__(f"doomed (by {by})")
        self.by = by


class Missed(SliceError):
    """A process would not be even any more."""

    def __init__(self, process):
        super().__init__(f"not even (process {process})")
        self.process = process


class Tired(SliceError):
    """A process has run in too many ticks one after another."""

    def __init__(self, process):
        super().__init__(f"tired (process {process})")
        self.process = process


class InvalidProcess(SliceError):
    """A value is not a process of the load."""


class InvalidNumber(SliceError):
    """A value is not an integer in its range."""


class InvalidRule(SliceError):
    """A value is not a rule."""


class InvalidCommand(SliceError):
    """A value is not a command."""


class NotSingle(SliceError):
    """A load has more than one processor."""


class NotFull(SliceError):
    """A load is not full."""


class NoRest(SliceError):
    """A share is the period, so that nothing is left of it."""


class NotRound(SliceError):
    """A plan is not a round plan."""


class NotInWindow(SliceError):
    """A tick is not in the window of a slice."""


class Impossible(SliceError):
    """The processes cannot go on."""


class Early(SliceError):
    """The next slice of a process has not begun."""


class NothingToUndo(SliceError):
    """There is no call that could be reverted."""
