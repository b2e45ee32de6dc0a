"""What the document says of runs, in slow and plain words, to compare the program with."""

from itertools import groupby, permutations, product


def picked(kept, columns, row):
    """The row's values in these columns."""
    named = dict(zip(kept, row))
    return tuple(named[column] for column in columns)


def grouped(kept, rows, step):
    columns = step[1]
    found = []
    # sorted leaves equal rows in their order, so the first one of a group stays the first one.
    together = sorted(rows, key=lambda row: picked(kept, columns, row))
    for values, group in groupby(together, key=lambda row: picked(kept, columns, row)):
        group = list(group)
        if step[0] == "heads":
            found.append(group[0])
        elif step[0] == "count":
            found.append((*values, len(group)))
        else:
            found.append((*values, sum(picked(kept, step[2], row)[0] for row in group)))
    return found


def rows_by_step(kept, rows, step):
    """The rows after a step that leaves nothing open."""
    rows = list(rows)
    if step[0] == "where":
        return [row for row in rows if picked(kept, step[1], row) == (step[2],)]
    if step[0] == "stable":
        return sorted(rows, key=lambda row: picked(kept, step[1], row))
    if step[0] == "first":
        return [row for at, row in enumerate(rows) if at < step[1]]
    if step[0] == "skip":
        return [row for at, row in enumerate(rows) if at >= step[1]]
    if step[0] == "columns":
        return [picked(kept, step[1], row) for row in rows]
    return grouped(kept, rows, step)


def is_ascending(kept, columns, rows):
    values = [picked(kept, columns, row) for row in rows]
    return all(one <= other for one, other in zip(values, values[1:]))


def all_runs(schema, report, table):
    """All runs, each as a pair of its script and its outcome."""
    return [
        pair
        for order in permutations(range(len(table)))
        for pair in runs_from(schema[0], report, [table[at] for at in order], [list(order)])
    ]


def runs_from(kept, steps, rows, script):
    if not steps:
        return [(script, rows)]
    step, later = steps[0], steps[1:]
    if step[0] != "sort":
        after = step[1] if step[0] == "columns" else kept
        return runs_from(after, later, rows_by_step(kept, rows, step), script)
    found = []
    for order in permutations(range(len(rows))):
        taken = [rows[at] for at in order]
        if is_ascending(kept, step[1], taken):
            found += runs_from(kept, later, taken, [*script, list(order)])
    return found


def all_outcomes(schema, report, table):
    """The set of all outcomes that runs over the table have, as tuples of rows."""
    kept = schema[0]
    states = {tuple(rows) for rows in permutations(table)}
    for step in report:
        if step[0] == "sort":
            states = {
                rows for state in states for rows in permutations(state) if is_ascending(kept, step[1], rows)
            }
        else:
            states = {tuple(rows_by_step(kept, state, step)) for state in states}
        if step[0] == "columns":
            kept = step[1]
    return states


def all_joined(outcomes, n):
    """All joined pages of size n, where each page may be one of any of the outcomes, as tuples of rows."""
    many = len(min(outcomes))
    pages = [{rows[k * n:k * n + n] for rows in outcomes} for k in range(many // n + 1)]
    return {sum(choice, ()) for choice in product(*pages)}
