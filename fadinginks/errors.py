"""The errors of the package, one class for each kind of failure."""


class InkError(ValueError):
    """The base class of all errors of the package."""


class BadPlan(InkError):
    """A value is not a plan."""


class BadPace(InkError):
    """A value is not a pace of the plan."""


class NoCell(InkError):
    """A value is not a cell of the plan."""


class BadTick(InkError):
    """A value is not a tick, or one out of bounds."""


class BadReader(InkError):
    """A value is not a reader of the plan."""


class BadTimetable(InkError):
    """A value is not a timetable of the plan and the reader."""


class BadReading(InkError):
    """A value is not a reading of as many looks as there are."""


class BadNumber(InkError):
    """A value is not a number, or one out of bounds."""


class BadChoice(InkError):
    """A value is not a choice of a case for each look."""


class BadClaim(InkError):
    """A value is not a claim on the looks."""


class NoSign(InkError):
    """A value is neither a small letter nor the sign for bare."""


class NoRounds(InkError):
    """A plan cannot be done in rounds, as its rounds could take no time."""


class NoStart(InkError):
    """A reader does not start at a write of the plan."""


class TooMany(InkError):
    """The rounds have more writes together than are gone through."""

    def __init__(self, most):
        super().__init__(f"more than {most} writes")
        self.most = most


class Unlike(InkError):
    """Two plans do not have the same cells, writes, lows and highs."""


class NoInk(InkError):
    """A value is not an ink of the plan."""


class NotText(InkError):
    """A value is not a text."""


class InvalidText(InkError):
    """A text is not a program; place is where it stops being one."""

    def __init__(self, place):
        super().__init__(f"not a program, from sign {place} on")
        self.place = place


class Unknown(InkError):
    """A program uses a name that stands nowhere ahead."""

    def __init__(self, name):
        super().__init__(f"unknown name {name}")
        self.name = name


class Twice(InkError):
    """A program gives a name that stands ahead already."""

    def __init__(self, name):
        super().__init__(f"name {name} is given twice")
        self.name = name


class TooLate(InkError):
    """So long a wait would pass the next write's high."""


class TooEarly(InkError):
    """The next write's low is still to come."""


class NoWrite(InkError):
    """All writes of the plan are done."""


class NothingDone(InkError):
    """There is no wait and no write to take back."""
