"""Stage 9: outcomes, all those that runs over a small table have."""

from openties.errors import NoRun
from openties.runs import run, script_in_order
from openties.schemas import is_plain_integer

# The functions below try the scripts that follow each order of the table. These have all outcomes that runs have: what
# a run chose ahead of its last sort is lost there, and the rows it has then are the same ones in all runs.


def outcomes(schema, report, table):
    """Return all outcomes that runs over the table have, in ascending order, each once."""
    found = [run(schema, report, table, script) for script in _scripts(schema, report, table)]
    return [list(rows) for rows in sorted({tuple(outcome) for outcome in found})]


def find_difference(schema, report, table):
    """Return a pair of scripts with different outcomes, or None if there is only one outcome."""
    scripts = _scripts(schema, report, table)
    outcome = run(schema, report, table, scripts[0])
    for script in scripts:
        if run(schema, report, table, script) != outcome:
            return scripts[0], script
    return None


def script_for(schema, report, table, outcome):
    """Return a script whose run has the outcome, which may be any value."""
    for script in _scripts(schema, report, table):
        if _is_outcome(run(schema, report, table, script), outcome):
            return script
    raise NoRun("no run over this table has this outcome")


def _scripts(schema, report, table):
    """Return a script for each order of the table, at first the one for the order in which it stands."""
    return [script_in_order(schema, report, table, order) for order in _orders(len(table))]


def _orders(count):
    """Return all permutations of so many indices, at first the ascending one."""
    found = [[]]
    for index in range(count):
        found = [[*order[:at], index, *order[at:]] for order in found for at in range(index, -1, -1)]
    return found


def _is_outcome(outcome, value):
    """Return whether the value is this outcome."""
    # The kinds and lengths are checked first: the value may be too large to be compared, and True equals 1.
    if not isinstance(value, list) or len(value) != len(outcome):
        return False
    return all([_is_row(row, part) for row, part in zip(outcome, value)])


def _is_row(row, value):
    """Return whether the value is this row of an outcome."""
    if not isinstance(value, tuple) or len(value) != len(row):
        return False
    return all([is_plain_integer(part) for part in value]) and value == row
