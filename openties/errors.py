"""The errors that the program raises."""


class OpentiesError(ValueError):
    """The base of all errors of the package."""


# The messages below do not show the argument: it may be any value, also one too large to print.


class InvalidIndex(OpentiesError):
    """The index is not the index of a row."""

    def __init__(self, index):
        super().__init__("no row has this index")
        self.index = index


class InvalidName(OpentiesError):
    """The name is not a name, or not the name of a report."""

    def __init__(self, name):
        super().__init__("this is not a name that can be used here")
        self.name = name


class NameInUse(OpentiesError):
    """There is a report of this name already."""

    def __init__(self, name):
        super().__init__("a report has this name already")
        self.name = name


class OfficeFull(OpentiesError):
    """The office holds as many reports as it may."""

    def __init__(self, limit):
        super().__init__("the office has no room for another report")
        self.limit = limit


class NoTable(OpentiesError):
    """There is no table of the kind that was asked for."""


class InvalidScript(OpentiesError):
    """The value is not a script for the report and the table."""


class NoRun(OpentiesError):
    """No run has the outcome."""


class InvalidRow(OpentiesError):
    """The value is not a row that the table can take."""


class InvalidReport(OpentiesError):
    """The value is not a report of the schema."""
