"""Stage 11: minimal keys, and schemas with the same tables."""

from openties.schemas import alike_table, is_table, is_unique


def minimal_keys(schema):
    """Return the minimal keys of the schema in ascending order."""
    return sorted([part for part in _column_sets(schema[0]) if _is_minimal_key(schema, part)])


def are_equivalent(schema, other):
    """Return whether two schemas with the same columns have the same tables."""
    return find_table(schema, other) is None and find_table(other, schema) is None


def find_table(schema, other):
    """Return a table with two rows of the schema that is none of the other one, or None if there is no such table."""
    # Rules and keys speak of two rows, and only of the columns in which these are equal. So it is enough to try, for
    # each closure in which two rows can be equal, one pair of such rows.
    for part in _column_sets(schema[0]):
        if not is_unique(schema, part):
            table = alike_table(schema, part, 2)
            if not is_table(other, table):
                return table
    return None


def _column_sets(columns):
    """Return all column sets of the columns."""
    found = [""]
    for column in columns:
        found = found + [part + column for part in found]
    return found


def _is_minimal_key(schema, columns):
    """Return whether the column set is unique, and no longer so without any one of its columns."""
    smaller = [columns.replace(column, "") for column in columns]
    return is_unique(schema, columns) and not any([is_unique(schema, part) for part in smaller])
