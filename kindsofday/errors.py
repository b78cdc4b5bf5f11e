"""The refusals: one class for each, all of them straight under DayError."""


class DayError(ValueError):
    """Something was refused; `what` is the value that is told with it."""

    def __init__(self, what):
        ValueError.__init__(self, repr(what))
        self.what = what
        # A desk books a refusal by the name of its class.
        self.name = "DayError"


class NoPlan(DayError):
    """A plan with a faulty part, told by its word."""

    def __init__(self, what):
        DayError.__init__(self, what)
        self.name = "NoPlan"


class NoRow(DayError):
    """A row that does not fit its plan."""

    def __init__(self, what):
        DayError.__init__(self, what)
        self.name = "NoRow"


class NoFact(DayError):
    """A fact that is to be forgotten and is not there, told by its name."""

    def __init__(self, what):
        DayError.__init__(self, what)
        self.name = "NoFact"


class NoThing(DayError):
    """A thing that is not known, or a dimension that the plan has not."""

    def __init__(self, what):
        DayError.__init__(self, what)
        self.name = "NoThing"


class Twice(DayError):
    """A watch whose name is given already."""

    def __init__(self, what):
        DayError.__init__(self, what)
        self.name = "Twice"


class NoGroup(DayError):
    """A dimension and attribute that the plan has not."""

    def __init__(self, what):
        DayError.__init__(self, what)
        self.name = "NoGroup"


class NoMeasure(DayError):
    """A measure that the plan has not."""

    def __init__(self, what):
        DayError.__init__(self, what)
        self.name = "NoMeasure"


class NoWatch(DayError):
    """A watch that the house has not, told by its name."""

    def __init__(self, what):
        DayError.__init__(self, what)
        self.name = "NoWatch"


class NoTime(DayError):
    """A number of rows that the house was never told."""

    def __init__(self, what):
        DayError.__init__(self, what)
        self.name = "NoTime"


class NoText(DayError):
    """A text that writes no plan or no rows."""

    def __init__(self, what):
        DayError.__init__(self, what)
        self.name = "NoText"


class NoDeskRow(DayError):
    """A text that is no row of a desk."""

    def __init__(self, what):
        DayError.__init__(self, what)
        self.name = "NoDeskRow"
