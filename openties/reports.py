"""Stage 2: reports, the steps through which a table goes."""

from openties.schemas import is_column, is_column_set, is_order, is_plain_integer

MOST_STEPS = 8
MOST_COUNT = 20
SORTING = ("sort", "stable")
CUTTING = ("first", "skip")
GROUPING = ("count", "sum", "heads")


def is_report(schema, value):
    """Return whether the value is a report of the schema."""
    if not isinstance(value, tuple) or len(value) > MOST_STEPS:
        return False
    kept = schema[0]
    is_cut = False
    is_grouped = False
    for step in value:
        if is_grouped or not _is_step(kept, step):
            return False
        kind = step[0]
        if is_cut and kind in SORTING:
            return False
        is_cut = is_cut or kind in CUTTING
        is_grouped = kind in GROUPING
        kept = kept_after(kept, step)
    return True


def kept_columns(schema, report):
    """Return the column set that is kept at the end of a report."""
    kept = schema[0]
    for step in report:
        kept = kept_after(kept, step)
    return kept


def kept_after(kept, step):
    """Return the columns that are kept after a step."""
    return step[1] if step[0] == "columns" else kept


def _is_step(kept, value):
    """Return whether the value has the form of a step that names only kept columns."""
    if not isinstance(value, tuple) or len(value) not in (2, 3):
        return False
    if len(value) == 2:
        return _is_short_step(kept, value[0], value[1])
    return _is_long_step(kept, value[0], value[1], value[2])


def _is_short_step(kept, kind, part):
    """Return whether the kind of step may have just this part."""
    if kind in SORTING:
        return is_order(kept, part) and part != ""
    if kind in CUTTING:
        return is_plain_integer(part) and 0 <= part <= MOST_COUNT
    return kind in ("columns", "count", "heads") and _is_filled_set(kept, part)


def _is_long_step(kept, kind, part, last):
    """Return whether the kind of step may have just these two parts."""
    if kind == "where":
        return is_column(kept, part) and is_plain_integer(last)
    return kind == "sum" and _is_filled_set(kept, part) and is_column(kept, last) and last not in part


def _is_filled_set(kept, value):
    """Return whether the value is a column set of kept columns that is not empty."""
    return is_column_set(kept, value) and value != ""
