"""Tables of which the sorts and filters of a report cannot tell rows apart, for witnesses and for pages."""

from openties.knowledge import determined
from openties.runs import script_in_order
from openties.schemas import alike_table


def span(steps):
    """Return where the rows that cuts leave of many rows begin, and where they end: None if they are all the others."""
    start, end = 0, None
    for step in steps:
        if step[0] == "skip":
            start = start + step[1]
        elif step[0] == "first" and (end is None or start + step[1] < end):
            end = start + step[1]
    return start, end


def alike_rows(schema, knowledge, columns, count):
    """Return rows that have the constants and are equal just in what these, the order and the columns determine."""
    fixed = dict(knowledge[0])
    rows = alike_table(schema, determined(schema, knowledge, columns), count)
    return [tuple([fixed.get(name, worth) for name, worth in zip(schema[0], row)]) for row in rows]


def scripts_exchanging(schema, report, table, one, other):
    """Return the scripts that follow the order of the table, and this order with two of its rows exchanged."""
    order = list(range(len(table)))
    turned = list(order)
    turned[one], turned[other] = other, one
    return script_in_order(schema, report, table, order), script_in_order(schema, report, table, turned)
