"""Stage 3: runs, in which a script chooses the order of equal rows."""

from openties.errors import InvalidScript
from openties.reports import SORTING, kept_after
from openties.schemas import is_plain_integer, projected

# No column has this name; it stands for the place of a row in an order that a script follows.
PLACE = "#"


def run(schema, report, table, script):
    """Return the outcome of the run that the script describes."""
    sorts = [step for step in report if step[0] == "sort"]
    if not isinstance(script, list) or len(script) != 1 + len(sorts):
        raise InvalidScript("a script is a list of one permutation for the start and one for each sort")
    rows = _permuted(table, script[0])
    kept = schema[0]
    used = 1
    for step in report:
        if step[0] == "sort":
            rows = _sorted_by_script(kept, rows, step[1], script[used])
            used += 1
        else:
            rows = rows_after(kept, rows, step)
        kept = kept_after(kept, step)
    return rows


def first_script(schema, report, table):
    """Return the script that leaves equal rows in their order, at the start and at each sort."""
    script = [list(range(len(table)))]
    rows = table
    kept = schema[0]
    for step in report:
        if step[0] == "sort":
            script.append(stable_permutation(kept, rows, step[1]))
        rows = rows_after(kept, rows, step)
        kept = kept_after(kept, step)
    return script


def script_in_order(schema, report, table, order):
    """Return the script that follows a permutation: at the start, and at each sort for the rows that are equal."""
    script = [list(order)]
    # Each row carries its place in the order as a further column, and each sort is by this column at last.
    rows = [(*table[index], place) for place, index in enumerate(order)]
    kept = schema[0] + PLACE
    for step in report:
        if step[0] == "sort":
            script.append(stable_permutation(kept, rows, step[1] + PLACE))
        if step[0] in ("sort", "columns"):
            step = (step[0], step[1] + PLACE)
        rows = rows_after(kept, rows, step)
        kept = kept_after(kept, step)
    return script


def is_permutation(count, value):
    """Return whether the value is a list that contains each index of so many rows once."""
    if not isinstance(value, list) or len(value) != count:
        return False
    # The kinds are checked first: True equals 1, and values of different kinds cannot be sorted.
    return all([is_plain_integer(index) for index in value]) and sorted(value) == list(range(count))


def stable_permutation(kept, rows, columns):
    """Return the permutation that sorts the rows by the columns and leaves equal rows in their order."""
    values = projected(kept, columns, rows)
    return sorted(range(len(rows)), key=lambda index: values[index])


def rows_after(kept, rows, step):
    """Return the rows after a step; a sort, too, leaves equal rows in their order here."""
    kind = step[0]
    if kind in SORTING:
        return [rows[index] for index in stable_permutation(kept, rows, step[1])]
    if kind == "where":
        place = kept.index(step[1])
        return [row for row in rows if row[place] == step[2]]
    if kind == "first":
        return rows[:step[1]]
    if kind == "skip":
        return rows[step[1]:]
    if kind == "columns":
        return projected(kept, step[1], rows)
    return _grouped(kept, rows, step)


def _permuted(rows, value):
    """Return the rows in the order that the value gives them, if it is a permutation of them."""
    if not is_permutation(len(rows), value):
        raise InvalidScript("a permutation is a list that contains each index of the rows once")
    return [rows[index] for index in value]


def _sorted_by_script(kept, rows, columns, value):
    """Return the rows in the order that the value gives them, if they ascend in the columns with it."""
    taken = _permuted(rows, value)
    values = projected(kept, columns, taken)
    if values != sorted(values):
        raise InvalidScript("a permutation for a sort brings the rows into ascending order")
    return taken


def _grouped(kept, rows, step):
    """Return the rows that a last step makes of the groups of rows that are equal in its columns."""
    groups = {}
    for values, row in zip(projected(kept, step[1], rows), rows):
        groups.setdefault(values, []).append(row)
    return [_group_row(kept, step, group, groups[group]) for group in sorted(groups)]


def _group_row(kept, step, values, rows):
    """Return the row that a last step makes of a group, whose rows have these values in its columns."""
    if step[0] == "heads":
        return rows[0]
    if step[0] == "count":
        return values + (len(rows),)
    place = kept.index(step[2])
    return values + (sum([row[place] for row in rows]),)
