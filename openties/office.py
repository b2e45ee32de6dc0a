"""Stage 12: an office, which holds a table and reports by name."""

from openties.errors import InvalidIndex, InvalidName, InvalidReport, InvalidRow, NameInUse, OfficeFull
from openties.knowledge import is_settled
from openties.reports import is_report
from openties.runs import first_script, run
from openties.schemas import LETTERS, is_plain_integer, is_table

MOST_ROWS = 20
MOST_REPORTS = 8
MOST_LETTERS = 8


class Office:
    """One table of a schema, and up to eight reports by name.

    A table and a dict of reports are never changed: each call that changes the office makes new ones. So what was
    there before a call can be kept as it is, to be taken back by undo.
    """

    def __init__(self, schema):
        self._schema = schema
        self._table = []
        self._reports = {}
        self._history = []

    def __eq__(self, other):
        if not isinstance(other, Office):
            return False
        return self._schema == other._schema and self._table == other._table and self._reports == other._reports

    def insert(self, row):
        """Add a row at the end of the table."""
        table = [*self._table, row]
        if len(table) > MOST_ROWS or not is_table(self._schema, table):
            raise InvalidRow("this is no row, or one that the table cannot take")
        self._keep_for_undo("insert")
        self._table = table

    def delete(self, index):
        """Remove the row with this index."""
        if not is_plain_integer(index) or not 0 <= index < len(self._table):
            raise InvalidIndex(index)
        self._keep_for_undo("delete")
        self._table = self._table[:index] + self._table[index + 1:]

    def add(self, name, report):
        """Add a report under a new name."""
        if not _is_name(name):
            raise InvalidName(name)
        if name in self._reports:
            raise NameInUse(name)
        if len(self._reports) >= MOST_REPORTS:
            raise OfficeFull(MOST_REPORTS)
        if not is_report(self._schema, report):
            raise InvalidReport("this is no report of the schema")
        self._keep_for_undo("add")
        reports = dict(self._reports)
        reports[name] = report
        self._reports = reports

    def drop(self, name):
        """Remove the report with this name."""
        self._check_name(name)
        self._keep_for_undo("drop")
        self._reports = {other: report for other, report in self._reports.items() if other != name}

    def undo(self):
        """Revert the most recent call that changed the office and was not reverted; return its name, or None."""
        if not self._history:
            return None
        call, self._table, self._reports = self._history.pop()
        return call

    def table(self):
        """Return the list of the rows."""
        return list(self._table)

    def names(self):
        """Return the names of the reports in ascending order."""
        return sorted(self._reports)

    def report(self, name):
        """Return the report with this name."""
        self._check_name(name)
        return self._reports[name]

    def outcome(self, name):
        """Return the outcome of the report with this name in the run that leaves equal rows in their order."""
        report = self.report(name)
        script = first_script(self._schema, report, self._table)
        return run(self._schema, report, self._table, script)

    def is_settled(self, name):
        """Return whether the report with this name is settled."""
        return is_settled(self._schema, self.report(name))

    def open_reports(self):
        """Return the names of the reports that are not settled, in ascending order."""
        return [name for name in self.names() if not self.is_settled(name)]

    def _check_name(self, name):
        """Raise an error if the value is not the name of a report."""
        # The kind is checked first: a value of another kind may have no place in a dict.
        if not isinstance(name, str) or name not in self._reports:
            raise InvalidName(name)

    def _keep_for_undo(self, call):
        """Keep what the office holds now; the call is the name of the one that is about to change it."""
        self._history.append((call, self._table, self._reports))


def _is_name(value):
    """Return whether the value is a name for a report."""
    if not isinstance(value, str) or not 1 <= len(value) <= MOST_LETTERS:
        return False
    return all([letter in LETTERS for letter in value])
