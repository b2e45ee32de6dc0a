"""Stage 7: mends, the columns that settle a report if its sorts are also by them."""

from openties.knowledge import is_settled
from openties.reports import SORTING, kept_after
from openties.schemas import is_order


def is_mend(schema, report, value):
    """Return whether the value is a mend of the report."""
    free = _free_columns(schema, report)
    if not isinstance(value, tuple) or len(value) != len(free):
        return False
    return all([is_order(columns, part) for columns, part in zip(free, value)])


def mended(report, mend):
    """Return the report with the columns of the mend behind those of its sorts."""
    found = []
    used = 0
    for step in report:
        if step[0] in SORTING:
            step = (step[0], step[1] + mend[used])
            used += 1
        found.append(step)
    return tuple(found)


def find_mend(schema, report):
    """Return the first one of the smallest mends that settle the report, or None if no mend settles it."""
    for mend in _mends_by_size(schema, report):
        if is_settled(schema, mended(report, mend)):
            return mend
    return None


def _free_columns(schema, report):
    """Return, for each sort, the columns that are kept there and by which it does not sort."""
    free = []
    kept = schema[0]
    for step in report:
        if step[0] in SORTING:
            free.append("".join([column for column in kept if column not in step[1]]))
        kept = kept_after(kept, step)
    return free


def _mends_by_size(schema, report):
    """Return the mends that may be the answer, in ascending order of their sizes, those of one size in their order.

    Whether a mend settles the report depends only on which columns it adds to the last 'sort' and to the 'stable'
    steps behind it. So the answer has no column in two of its strings, and each string is in ascending order.
    """
    free = _free_columns(schema, report)
    found = [("",) * len(free)]
    for column in schema[0]:
        places = [at for at, columns in enumerate(free) if column in columns]
        found = found + [_with_column(mend, at, column) for mend in found for at in places]
    return sorted(found, key=lambda mend: (len("".join(mend)), mend))


def _with_column(mend, at, column):
    """Return the mend with a column more at the end of one of its strings."""
    return (*mend[:at], mend[at] + column, *mend[at + 1:])
