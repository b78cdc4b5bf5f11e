"""The refusals: one class for each, all of them straight under DayError."""


class DayError(ValueError):
    """Something was refused; `what` is the value that is told with it."""

    def __init__(self, what):
        ValueError.__init__(self, repr(what))
        self.what = what


class NoPlan(DayError):
    """A plan with a faulty part, told by its word."""


class NoRow(DayError):
    """A row that does not fit its plan."""


class NoFact(DayError):
    """A fact that is to be forgotten and is not there, told by its name."""


class NoThing(DayError):
    """A thing that is not known, or a dimension that the plan has not."""


class Twice(DayError):
    """A watch whose name is given already."""


class NoGroup(DayError):
    """A dimension and attribute that the plan has not."""


class NoMeasure(DayError):
    """A measure that the plan has not."""


class NoWatch(DayError):
    """A watch that the house has not, told by its name."""


class NoTime(DayError):
    """A number of rows that the house was never told."""


class NoText(DayError):
    """A text that writes no plan or no rows."""


class NoDeskRow(DayError):
    """A text that is no row of a desk."""
