"""Stage 1: schemas, closures of column sets, and tables."""

from openties.errors import NoTable

LETTERS = "abcdefghijklmnopqrstuvwxyz"
MOST_COLUMNS = 5


def is_plain_integer(value):
    """Return whether the value is an int that is not a bool."""
    return isinstance(value, int) and not isinstance(value, bool)


def is_column(columns, value):
    """Return whether the value is one of the columns."""
    return isinstance(value, str) and len(value) == 1 and value in columns


def is_column_set(columns, value):
    """Return whether the value is a string of distinct columns in ascending order."""
    # The length comes first, because a value of any kind may be a very long string.
    if not isinstance(value, str) or len(value) > len(columns):
        return False
    return value == common(columns, value)


def is_order(columns, value):
    """Return whether the value is a string of distinct columns in any order, perhaps empty."""
    # The length comes first, because a value of any kind may be a very long string.
    if not isinstance(value, str) or len(value) > len(columns):
        return False
    return all([is_column(columns, column) for column in value]) and len(set(value)) == len(value)


def common(columns, names):
    """Return those of the columns that occur among the names, in the order of the columns."""
    return "".join([column for column in columns if column in names])


def contains(columns, part):
    """Return whether all columns of the part are among the columns."""
    return all([column in columns for column in part])


def projected(columns, part, rows):
    """Return, for each row with these columns, the tuple of its values in the columns of the part."""
    places = [columns.index(column) for column in part]
    return [tuple([row[place] for place in places]) for row in rows]


def is_schema(value):
    """Return whether the value is a schema."""
    if not isinstance(value, tuple) or len(value) != 3:
        return False
    columns, rules, keys = value
    if not is_column_set(LETTERS, columns) or not 1 <= len(columns) <= MOST_COLUMNS:
        return False
    return _are_rules(columns, rules) and _are_keys(columns, keys)


def closure(schema, columns):
    """Return the closure of a column set."""
    found = columns
    # A round that changes anything adds a column, so there are no more such rounds than columns.
    for _ in schema[0]:
        found = _closure_round(schema, found)
    return found


def is_unique(schema, columns):
    """Return whether the closure of a column set contains a key."""
    return _has_key(closure(schema, columns), schema[2])


def is_table(schema, value):
    """Return whether the value is a table of the schema."""
    columns, rules, keys = schema
    if not isinstance(value, list):
        return False
    # The rows are checked first: only integers can be compared and grouped safely.
    if not all([_is_row(columns, row) for row in value]):
        return False
    if not all([_keeps_rule(columns, rule, value) for rule in rules]):
        return False
    return all([_keeps_key(columns, key, value) for key in keys])


def alike_table(schema, columns, count):
    """Return a table of count rows that are equal just in the closure of the column set."""
    if count > 1 and is_unique(schema, columns):
        raise NoTable("two rows of this table would be equal in a key")
    same = closure(schema, columns)
    # A rule whose left side is in the closure has its right side there, so these rows keep all rules.
    return [tuple([0 if name in same else at for name in schema[0]]) for at in range(count)]


def _are_rules(columns, value):
    """Return whether the value is a tuple of distinct rules."""
    if not isinstance(value, tuple) or not all([_is_rule(columns, rule) for rule in value]):
        return False
    return len(set(value)) == len(value)


def _is_rule(columns, value):
    """Return whether the value is a pair of a column set and a column outside of it."""
    if not isinstance(value, tuple) or len(value) != 2:
        return False
    left, right = value
    return is_column_set(columns, left) and is_column(columns, right) and right not in left


def _are_keys(columns, value):
    """Return whether the value is a tuple of distinct column sets that are not empty."""
    if not isinstance(value, tuple) or not all([is_column_set(columns, key) for key in value]):
        return False
    return "" not in value and len(set(value)) == len(value)


def _has_key(columns, keys):
    """Return whether the columns contain one of the keys."""
    return any([contains(columns, key) for key in keys])


def _closure_round(schema, found):
    """Return the columns with all that their keys and rules add to them directly."""
    names, rules, keys = schema
    if _has_key(found, keys):
        return names
    gained = [right for left, right in rules if contains(found, left)]
    return common(names, found + "".join(gained))


def _is_row(columns, value):
    """Return whether the value is a tuple of one integer for each column."""
    if not isinstance(value, tuple) or len(value) != len(columns):
        return False
    return all([is_plain_integer(part) for part in value])


def _keeps_rule(columns, rule, table):
    """Return whether rows that are equal in the rule's left side are equal in its right side."""
    left, right = rule
    found = {}
    for group, worth in zip(projected(columns, left, table), projected(columns, right, table)):
        if found.setdefault(group, worth) != worth:
            return False
    return True


def _keeps_key(columns, key, table):
    """Return whether no two rows are equal in the key."""
    groups = projected(columns, key, table)
    return len(set(groups)) == len(groups)
