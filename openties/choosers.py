"""Stage 10: choosers, functions that choose the order of equal rows while a report runs."""

from openties.reports import kept_after
from openties.runs import is_permutation, rows_after, stable_permutation
from openties.schemas import projected


def play(schema, report, table, choose):
    """Return the outcome of the run in which the function chooses the order of equal rows, and its script."""
    # The function may change what its caller holds, the table too.
    rows = list(table)
    script = []
    kept = schema[0]
    # The start is like a sort by no columns: all rows are equal in these.
    for step in (("sort", ""), *report):
        if step[0] == "sort":
            script.append(_chosen_permutation(kept, rows, step[1], choose))
            rows = [rows[index] for index in script[-1]]
        else:
            rows = rows_after(kept, rows, step)
        kept = kept_after(kept, step)
    return rows, script


def _chosen_permutation(kept, rows, columns, choose):
    """Return the permutation that sorts the rows by the columns, with equal rows as the function orders them."""
    values = projected(kept, columns, rows)
    found = []
    for group in _equal_groups(values, stable_permutation(kept, rows, columns)):
        found.extend(_chosen_order(rows, group, choose))
    return found


def _equal_groups(values, order):
    """Return the indices of the order in groups, of which each has those next to each other with equal values."""
    groups = []
    for index in order:
        if groups and values[groups[-1][0]] == values[index]:
            groups[-1].append(index)
        else:
            groups.append([index])
    return groups


def _chosen_order(rows, group, choose):
    """Return the indices of a group of rows in the order that the function chooses."""
    if len(group) < 2:
        return group
    order = choose([rows[index] for index in group])
    if not is_permutation(len(group), order):
        return group
    return [group[place] for place in order]
