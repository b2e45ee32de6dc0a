"""Stage 4: knowledge, that is, what is the same in all runs of a report, for every table."""

from openties.reports import GROUPING, SORTING, kept_columns
from openties.schemas import closure, common, contains, is_column, is_column_set, is_order, is_plain_integer, is_unique

EMPTY = ("empty",)


def is_knowledge(schema, value):
    """Return whether the value has the form of a knowledge of the schema."""
    if not isinstance(value, tuple) or len(value) not in (1, 5):
        return False
    if len(value) == 1:
        return value == EMPTY
    columns = schema[0]
    constants, order, known, counted, most = value
    if not _are_constants(columns, constants) or not is_order(columns, order) or not is_column_set(columns, known):
        return False
    return isinstance(counted, bool) and _is_bound(most)


def start_knowledge(schema):
    """Return the knowledge at the start of each report."""
    most = 1 if is_unique(schema, "") else None
    return (), "", schema[0], True, most


def knowledge_after(schema, knowledge, step):
    """Return the knowledge after a step."""
    kind = step[0]
    if knowledge == EMPTY or kind in GROUPING:
        return knowledge
    if kind == "where":
        return _after_where(schema, knowledge, step[1], step[2])
    if kind in SORTING:
        return _after_sorting(knowledge, kind, step[1])
    if kind == "first":
        return _after_first(schema, knowledge, step[1])
    if kind == "skip":
        return _after_skip(schema, knowledge, step[1])
    constants, order, known, counted, most = knowledge
    return constants, order, common(known, step[1]), counted, most


def derive(schema, report):
    """Return the list of the knowledge at the start and after each step."""
    found = [start_knowledge(schema)]
    for step in report:
        found.append(knowledge_after(schema, found[-1], step))
    return found


def is_settled(schema, report):
    """Return whether for each table all runs of the report have the same outcome."""
    return settles(schema, report, derive(schema, report)[-1])


def settles(schema, report, knowledge):
    """Return whether the knowledge settles the report, if it is the one at the end."""
    if knowledge == EMPTY:
        return True
    known, counted, most = knowledge[2:]
    if not counted:
        return False
    kind = report[-1][0] if report else ""
    if kind == "count":
        return contains(known, report[-1][1])
    if kind == "sum":
        return contains(known, report[-1][1] + report[-1][2])
    kept = kept_columns(schema, report)
    # The columns of 'heads' are kept ones, so they are known if all kept columns are.
    if not contains(known, kept):
        return False
    group = report[-1][1] if kind == "heads" else ""
    return most == 1 or contains(determined(schema, knowledge, group), kept)


def determined(schema, knowledge, columns):
    """Return the closure of the columns of the order, the constants and the given column set."""
    constants, order = knowledge[:2]
    names = "".join([column for column, _ in constants]) + order + columns
    return closure(schema, common(schema[0], names))


def _are_constants(columns, value):
    """Return whether the value is a tuple of pairs of a column and its value, in ascending order of the columns."""
    if not isinstance(value, tuple) or not all([_is_constant(columns, pair) for pair in value]):
        return False
    return is_column_set(columns, "".join([column for column, _ in value]))


def _is_constant(columns, value):
    """Return whether the value is a pair of a column and an integer."""
    if not isinstance(value, tuple) or len(value) != 2:
        return False
    return is_column(columns, value[0]) and is_plain_integer(value[1])


def _is_bound(value):
    """Return whether the value is a bound of the number of rows: None, or an integer from 1."""
    return value is None or is_plain_integer(value) and value >= 1


def _placed(schema, knowledge):
    """Return the placed columns of a knowledge."""
    return common(knowledge[2], determined(schema, knowledge, ""))


def _after_where(schema, knowledge, column, worth):
    """Return the knowledge after a step 'where'."""
    constants, order, known, counted, most = knowledge
    fixed = dict(constants)
    if column in fixed:
        return knowledge if fixed[column] == worth else EMPTY
    fixed[column] = worth
    if column not in known:
        known, counted = "", False
    if is_unique(schema, common(schema[0], list(fixed))):
        most = 1
    return tuple(sorted(fixed.items())), order, known, counted, most


def _after_sorting(knowledge, kind, columns):
    """Return the knowledge after a step 'sort' or 'stable'."""
    constants, order, known, counted, most = knowledge
    new_order = _known_beginning(known, columns)
    if kind == "stable" and new_order == columns:
        new_order = columns + "".join([column for column in order if column not in columns])
    return constants, new_order, known, counted, most


def _known_beginning(known, columns):
    """Return the longest beginning of the columns that has only known ones."""
    for at, column in enumerate(columns):
        if column not in known:
            return columns[:at]
    return columns


def _after_first(schema, knowledge, count):
    """Return the knowledge after a step 'first'."""
    constants, order, _, counted, most = knowledge
    if count == 0:
        return EMPTY
    if most is not None and most <= count:
        return knowledge
    return constants, order, _placed(schema, knowledge), counted, count


def _after_skip(schema, knowledge, count):
    """Return the knowledge after a step 'skip'."""
    constants, order, _, counted, most = knowledge
    if count == 0:
        return knowledge
    if most is None:
        return constants, order, _placed(schema, knowledge), counted, None
    if most <= count:
        return EMPTY
    return constants, order, _placed(schema, knowledge), counted, most - count
