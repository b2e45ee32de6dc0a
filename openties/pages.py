"""Stage 8: pages, parts of an outcome that are asked for one by one, each in a run of its own."""

from openties.alike import alike_rows, scripts_exchanging, span
from openties.knowledge import derive, settles
from openties.runs import run


def page(outcome, n, k):
    """Return the page number k of size n of an outcome."""
    return outcome[k * n:k * n + n]


def joined(schema, report, n, table, scripts):
    """Return the joined pages of the runs that the scripts describe."""
    rows = []
    for k, script in enumerate(scripts):
        part = page(run(schema, report, table, script), n, k)
        rows.extend(part)
        if len(part) < n:
            break
    return rows


def is_lossless(schema, report, n):
    """Return whether for each table all joined pages of size n are an outcome of the report."""
    knowledge = derive(schema, report)[-1]
    return settles(schema, report, knowledge) or knowledge[4] is not None and knowledge[4] <= n


def find_loss(schema, report, n):
    """Return a table and scripts whose joined pages are no outcome, or None if the report is lossless for the size."""
    if is_lossless(schema, report, n):
        return None
    start, _ = span(report)
    knowledge = derive(schema, report)[-1]
    # The report leaves n + 1 different rows of these. The first one of them also comes on the second page.
    table = alike_rows(schema, knowledge, "", start + n + 1)
    script, turned = scripts_exchanging(schema, report, table, start, start + n)
    # Pages of size 1 are asked for until one is empty, which is the third one here.
    later = [[list(part) for part in turned] for _ in range(2 if n == 1 else 1)]
    return table, [script, *later]
