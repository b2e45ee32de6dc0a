"""Many schemas, reports and tables, made from a fixed seed, so that each run of the tests has the same ones."""

from itertools import product
from random import Random

from openties.schemas import is_table
from samples import all_keys, all_rules

LETTERS = "abcdeqz"
VALUES = [0, 0, 0, 1, -5, 10 ** 60]


def some_schema(random, most=5):
    columns = "".join(sorted(random.sample(LETTERS, random.randint(1, most))))
    rules, keys = all_rules(columns), all_keys(columns)
    # Keys of one column settle much; they come less often than others.
    long_keys = tuple(key for key in keys if len(key) > 1 or random.random() < 0.2)
    return (
        columns,
        tuple(random.sample(rules, min(len(rules), random.choice([0, 0, 1, 1, 2, 4])))),
        tuple(random.sample(long_keys, min(len(long_keys), random.choice([0, 0, 1, 1, 2])))),
    )


def some_order(random, kept):
    return "".join(random.sample(kept, min(len(kept), random.choice([1, 1, 1, 2, 3, 5]))))


def some_set(random, kept):
    return "".join(sorted(some_order(random, kept)))


def last_step(random, kept):
    columns = some_set(random, kept)
    rest = [column for column in kept if column not in columns]
    steps = [("count", columns), ("heads", columns)] + [("sum", columns, column) for column in rest[:1]]
    return random.choice(steps)


def some_report(random, schema, most=8, counts=(0, 1, 1, 2, 2, 3, 5, 19, 20), last=True):
    """A report of the schema: filters and sorts, then filters and cuts, and perhaps a last step that groups."""
    kept, steps = schema[0], []
    ahead = random.randint(0, 4)
    for at in range(random.randint(0, most)):
        kind = random.choice(["where", "sort", "sort", "stable"] if at < ahead else ["where", "first", "skip", "skip"])
        if random.random() < 0.2:
            kind = "columns"
        if kind == "where":
            steps.append((kind, random.choice(kept), random.choice(VALUES)))
        elif kind in ("first", "skip"):
            steps.append((kind, random.choice(counts)))
        elif kind == "columns":
            kept = "".join(column for column in kept if random.random() < 0.7) or kept
            steps.append((kind, kept))
        else:
            steps.append((kind, some_order(random, kept)))
    if last and random.random() < 0.4:
        return (*steps[:most - 1], last_step(random, kept))
    return tuple(steps)


def some_table(random, schema, most):
    """A table of the schema with small values, so that many rows are equal in some columns."""
    table = []
    rows = list(product((0, 1, 2), repeat=len(schema[0])))
    for _ in range(random.randint(0, most)):
        more = table + [random.choice(rows)]
        if is_table(schema, more):
            table = more
    return table


def reports(seed, schema, many, **limits):
    """So many reports of the schema."""
    random = Random(seed)
    return [some_report(random, schema, **limits) for _ in range(many)]


def pairs(seed, many, **limits):
    """So many pairs of a schema and a report."""
    random = Random(seed)
    found = []
    for _ in range(many):
        schema = some_schema(random)
        found.append((schema, some_report(random, schema, **limits)))
    return found
