"""Stage 6: witnesses, which show that a report is not settled."""

from openties.alike import alike_rows, scripts_exchanging, span
from openties.errors import InvalidScript
from openties.knowledge import derive, determined, settles
from openties.runs import run
from openties.schemas import closure, common, is_table


def is_witness(schema, report, value):
    """Return whether the value is a witness of the report."""
    if not isinstance(value, tuple) or len(value) != 3:
        return False
    table, script, other = value
    if not is_table(schema, table):
        return False
    try:
        outcome = run(schema, report, table, script)
        other_outcome = run(schema, report, table, other)
    except InvalidScript:
        return False
    return outcome != other_outcome


def find_witness(schema, report):
    """Return a table with two scripts that have different outcomes, or None if the report is settled."""
    found = derive(schema, report)
    if settles(schema, report, found[-1]):
        return None
    if found[-1][3]:
        table, one, other = _alike_exchange(schema, report, found[-1])
    else:
        table, one, other = _filtered_exchange(schema, report, found)
    script, turned = scripts_exchanging(schema, report, table, one, other)
    return table, script, turned


def _alike_exchange(schema, report, knowledge):
    """Return a table and two of its rows: if they are exchanged, another row is the first one that is left."""
    start, end = span(report)
    if end is not None:
        return alike_rows(schema, knowledge, "", end + 1), start, end
    if start > 0:
        return alike_rows(schema, knowledge, "", start + 1), 0, start
    # Without a cut all rows are left. 'heads' keeps the first row of each group, so the two have to be in one.
    group = report[-1][1] if report and report[-1][0] == "heads" else ""
    return alike_rows(schema, knowledge, group, 2), 0, 1


def _filtered_exchange(schema, report, found):
    """Return a table and two of its rows: if they are exchanged, no row is left at the end instead of one.

    The cuts leave just one of the two rows, and then a filter takes it away if it is the twin. Later steps skip all
    rows that pass this filter but one, so one is left if the twin was cut off, and none if the other one was.
    """
    at = [knowledge[3] for knowledge in found].index(False) - 1
    start, end = span(report[:at])
    passing = _passing_columns(schema, report[at + 1:], found[at + 1:])
    # Ahead of the passing rows stand so many others, which the cuts and the filter take away in both runs.
    many = start - 1 if end is None else end - len(passing)
    rows = _ascending_rows(schema, found[-1], [_constant_columns(schema, found[at])] * many + passing)
    # The twin comes just ahead of a row that is equal in all sorts; the cut goes between the two.
    place = many if end is None else len(rows) - 1
    twin = _with_columns(schema, rows[place], determined(schema, found[at], ""), len(rows) + 1)
    return [*rows[:place], twin, *rows[place:]], place, place + 1


def _passing_columns(schema, steps, found):
    """Return the columns that rows must share to be skipped by the steps, one after the other, and the last one left.

    found has the knowledge ahead of each step, and the one at the end. A row that is skipped has only to pass the
    filters ahead of the skip: all filters together may determine a key, so that no second row can pass them all.
    """
    passing = []
    for step, knowledge in zip(steps, found):
        if step[0] == "skip":
            passing = passing + [_constant_columns(schema, knowledge)] * step[1]
    return [*passing, schema[0]]


def _constant_columns(schema, knowledge):
    """Return the closure of the columns of the constants."""
    return closure(schema, common(schema[0], "".join([column for column, _ in knowledge[0]])))


def _ascending_rows(schema, knowledge, shared):
    """Return rows in ascending order, each with the values of the last one in its shared columns.

    Each item of shared is a closure that lies in the next one; so the rows ascend in all columns at once.
    """
    fixed = dict(knowledge[0])
    last = tuple([fixed.get(name, 0) for name in schema[0]])
    return [_with_columns(schema, last, same, len(shared) - at) for at, same in enumerate(shared)]


def _with_columns(schema, row, same, less):
    """Return a row that has the row's values in the same columns, and in the others values that are less by so much."""
    return tuple([worth if name in same else worth - less for name, worth in zip(schema[0], row)])
