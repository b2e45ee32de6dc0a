"""Point [14]: pages."""

import unittest
from itertools import product

from makers import pairs, reports
from openties.knowledge import EMPTY, derive, is_settled
from openties.pages import find_loss, is_lossless, joined, page
from openties.reports import is_report
from openties.runs import first_script, run
from openties.schemas import is_table
from plain import all_joined, all_outcomes, all_runs
from samples import FULL, KEYED, NAMES, PLAIN, TOP
from test_knowledge import ALWAYS, NOT_SETTLED, PAIRED, SETTLED

SEVEN = [(at, at % 2) for at in range(7)]
TWO = [(1, 5, 0), (2, 5, 0)]
FOUR = [(1, 5, 0), (2, 5, 0), (3, 5, 0), (4, 5, 0)]
SORTED = (("sort", "b"),)

# Schema, report, the smallest size for which it is lossless (None if there is none).
SIZES = [
    (PLAIN, TOP, 2),
    (KEYED, TOP, 2),
    (KEYED, FULL, 1),
    (KEYED, NAMES, 1),
    (PLAIN, FULL, 2),
    (PLAIN, (), None),
    (KEYED, (), None),
    (ALWAYS, (), 1),
    (PLAIN, SORTED, None),
    (PLAIN, (("sort", "cab"),), 1),
    (PLAIN, (("first", 0),), 1),
    (PLAIN, (("where", "a", 1), ("where", "a", 2)), 1),
    (PLAIN, (("first", 3), ("skip", 3)), 1),
    (PLAIN, (("first", 1),), 1),
    (PLAIN, (("first", 20),), 20),
    (PLAIN, (("first", 20), ("skip", 7)), 13),
    (PLAIN, (("skip", 7), ("first", 20)), 20),
    (PLAIN, (("skip", 7), ("first", 20), ("skip", 19)), 1),
    (PLAIN, (("first", 9), ("first", 11), ("skip", 4), ("first", 7)), 5),
    (PLAIN, (("skip", 7),), None),
    (PLAIN, (("skip", 20),) * 8, None),
    (PLAIN, (("sort", "b"), ("skip", 2), ("where", "b", 3)), None),
    (PLAIN, (("sort", "b"), ("first", 4), ("where", "b", 3)), 4),
    (PLAIN, (("sort", "b"), ("first", 4), ("where", "b", 3), ("columns", "b")), 1),
    (PLAIN, (("where", "c", 10 ** 59), ("stable", "b"), ("skip", 1), ("columns", "ac"), ("first", 6)), 6),
    (PAIRED, (("where", "a", 1), ("where", "b", 1)), 1),
    (PAIRED, (("where", "a", 1), ("first", 5)), 5),
    (PAIRED, (("where", "a", 1), ("sort", "b"), ("first", 5)), 1),
]


def has_pages(schema, report):
    """Whether the report is one of which pages can be joined."""
    last = derive(schema, report)[-1]
    grouped = report != () and report[-1][0] in ("count", "sum", "heads")
    return not grouped and (last == EMPTY or last[3])


class TestPage(unittest.TestCase):
    def test_example(self):
        self.assertEqual(page([(1,), (2,), (3,)], 2, 1), [(3,)])

    def test_pages_of_seven_rows(self):
        self.assertEqual(page(SEVEN, 3, 0), SEVEN[:3])
        self.assertEqual(page(SEVEN, 3, 1), [(3, 1), (4, 0), (5, 1)])
        self.assertEqual(page(SEVEN, 3, 2), [(6, 0)])
        for n, k in [(3, 3), (3, 4), (7, 1), (8, 1), (1, 7), (20, 1), (1, 10 ** 9), (10 ** 9, 10 ** 9), (4, 2)]:
            self.assertEqual(page(SEVEN, n, k), [], (n, k))
        for n in (7, 8, 20, 10 ** 40):
            self.assertEqual(page(SEVEN, n, 0), SEVEN)

    def test_the_empty_outcome(self):
        for n, k in product((1, 2, 20, 10 ** 9), (0, 1, 2, 10 ** 9)):
            self.assertEqual(page([], n, k), [])

    def test_each_row_is_on_its_page(self):
        for n in range(1, 10):
            for k in range(9):
                rows = [row for at, row in enumerate(SEVEN) if k * n <= at <= k * n + n - 1]
                self.assertEqual(page(SEVEN, n, k), rows, (n, k))


class TestJoined(unittest.TestCase):
    def test_example(self):
        scripts = [[[0, 1], [0, 1]], [[0, 1], [1, 0]], [[0, 1], [0, 1]]]
        self.assertEqual(joined(PLAIN, TOP, 1, TWO, scripts), [(1, 5, 0), (1, 5, 0)])

    def test_pages_of_one_run_are_its_outcome(self):
        table = [(at, at % 3, 0) for at in range(9)]
        for many in range(10):
            for report in (SORTED, (), (("sort", "b"), ("skip", 2)), (("stable", "c"), ("first", 6))):
                script = first_script(PLAIN, report, table[:many])
                outcome = run(PLAIN, report, table[:many], script)
                for n in range(1, 12):
                    scripts = [script] * (len(outcome) // n + 1)
                    self.assertEqual(joined(PLAIN, report, n, table[:many], scripts), outcome, (report, many, n))
                    # More scripts than are needed change nothing.
                    self.assertEqual(joined(PLAIN, report, n, table[:many], scripts + [script] * 3), outcome)

    def test_pages_of_several_runs(self):
        one, other, third = [0, 1, 2, 3], [3, 2, 1, 0], [1, 0, 3, 2]
        a, b, c, d = FOUR
        for n, orders, rows in [
            (1, [one, other, third, other, one], [a, c, d, a]),
            (1, [other, third, other, third, third], [d, a, b, c]),
            (2, [one, other, one], [a, b, b, a]),
            (2, [one, third, one], [a, b, d, c]),
            (2, [other, third, one], [d, c, d, c]),
            (3, [one, other], [a, b, c, a]),
            (3, [third, one], [b, a, d, d]),
            (4, [other, one], [d, c, b, a]),
            (5, [third], [b, a, d, c]),
        ]:
            scripts = [[order, [0, 1, 2, 3]] for order in orders]
            self.assertEqual(joined(PLAIN, SORTED, n, FOUR, scripts), rows, (n, orders))
            scripts = [[[0, 1, 2, 3], order] for order in orders]
            self.assertEqual(joined(PLAIN, SORTED, n, FOUR, scripts), rows, (n, orders))
            self.assertEqual(joined(PLAIN, (), n, FOUR, [[order] for order in orders]), rows, (n, orders))
            # Those behind the first page with fewer rows are not taken.
            more = [[order] for order in orders + [one, other, third, one]]
            self.assertEqual(joined(PLAIN, (), n, FOUR, more), rows, (n, orders))

    def test_numbers_of_rows(self):
        one, other = [[0, 1, 2, 3]], [[3, 2, 1, 0]]
        # The number of rows is a multiple of n, is 0, is below n.
        self.assertEqual(joined(PLAIN, (), 2, FOUR, [one, other, one]), [FOUR[0], FOUR[1], FOUR[1], FOUR[0]])
        self.assertEqual(joined(PLAIN, (), 4, FOUR, [other, one]), FOUR[::-1])
        for n in (1, 2, 20):
            self.assertEqual(joined(PLAIN, (), n, [], [[[]]]), [])
            self.assertEqual(joined(PLAIN, (), n, [], [[[]], [[]]]), [])
            self.assertEqual(joined(PLAIN, (("first", 0),), n, FOUR, [one, other]), [])
            self.assertEqual(joined(PLAIN, (("skip", 4),), n, FOUR, [one, other]), [])
        for n in (5, 6, 20, 10 ** 9):
            self.assertEqual(joined(PLAIN, (), n, FOUR, [other]), FOUR[::-1])
            self.assertEqual(joined(PLAIN, (), n, FOUR, [other, one]), FOUR[::-1])

    def test_kept_columns(self):
        report = (("columns", "ab"), ("sort", "b"), ("columns", "a"))
        scripts = [[[0, 1, 2, 3], [2, 0, 1, 3]], [[3, 2, 1, 0], [0, 1, 2, 3]], [[0, 1, 2, 3], [0, 1, 2, 3]]]
        self.assertEqual(joined(PLAIN, report, 2, FOUR, scripts), [(3,), (1,), (2,), (1,)])


class TestIsLossless(unittest.TestCase):
    def test_examples(self):
        self.assertEqual(
            [is_lossless(PLAIN, TOP, 1), is_lossless(PLAIN, TOP, 2), is_lossless(KEYED, FULL, 1)], [False, True, True]
        )

    def test_sizes(self):
        for schema, report, least in SIZES:
            self.assertTrue(is_report(schema, report) and has_pages(schema, report), report)
            for n in [*range(1, 23), 10 ** 3, 10 ** 6, 10 ** 60]:
                right = least is not None and n >= least
                self.assertIs(is_lossless(schema, report, n), right, (schema, report, n))

    def test_settled_reports(self):
        for schema, report in SETTLED:
            if has_pages(schema, report):
                for n in (1, 2, 20):
                    self.assertIs(is_lossless(schema, report, n), True, (schema, report, n))

    def test_joined_pages_of_small_tables(self):
        """Where it says so, all joined pages of small tables are outcomes."""
        tables = [[], [(0, 0, 0), (0, 0, 1), (0, 1, 0)], [(1, 0, 0), (0, 0, 1), (0, 1, 1)], [(0, 0, 1), (1, 1, 0)],
                  [(0, 1, 2), (1, 1, 2), (2, 1, 2)], [(1, 1, 1), (1, 1, 1), (2, 0, 1)]]
        lossless = 0
        for schema in (PLAIN, KEYED, PAIRED):
            for report in reports(31, schema, 250, most=4, counts=(1, 1, 2, 3), last=False):
                if not has_pages(schema, report):
                    continue
                for table, n in product(tables, (1, 2, 3)):
                    if is_lossless(schema, report, n) and is_table(schema, table):
                        outcomes = all_outcomes(schema, report, table)
                        self.assertLessEqual(all_joined(outcomes, n), outcomes, (schema, report, n, table))
                        lossless += not is_settled(schema, report)
        self.assertGreater(lossless, 100)


class TestFindLoss(unittest.TestCase):
    def check(self, schema, report, n):
        """find_loss returns None exactly if the report is lossless, otherwise pages that are no outcome."""
        found = find_loss(schema, report, n)
        self.assertIs(found is None, is_lossless(schema, report, n), (schema, report, n))
        if found is None:
            return
        self.assertIs(type(found), tuple)
        table, scripts = found
        self.assertIs(type(scripts), list)
        self.assertIs(is_table(schema, table), True, (schema, report, n))
        outcomes = [run(schema, report, table, script) for script in scripts]
        many = len(outcomes[0])
        # As many scripts as the pages need.
        self.assertEqual(len(scripts), many // n + 1, (schema, report, n))
        rows = [row for k, outcome in enumerate(outcomes) for row in outcome[k * n:k * n + n]]
        self.assertEqual(joined(schema, report, n, table, scripts), rows)
        self.check_no_outcome(schema, report, table, rows)

    def check_no_outcome(self, schema, report, table, rows):
        if len(table) <= 4:
            self.assertNotIn(tuple(rows), all_outcomes(schema, report, table), (schema, report, table))
            if len(report) < 3:
                self.assertNotIn(rows, [outcome for _, outcome in all_runs(schema, report, table)])
            return
        # Larger tables: each outcome has different rows, because the kept columns of all rows differ.
        kept = schema[0]
        for step in report:
            kept = step[1] if step[0] == "columns" else kept
        places = [schema[0].index(column) for column in kept]
        self.assertEqual(len({tuple(row[place] for place in places) for row in table}), len(table))
        self.assertLess(len(set(rows)), len(rows))

    def test_example(self):
        self.assertIsNone(find_loss(KEYED, FULL, 1))

    def test_sizes(self):
        for schema, report, _ in SIZES:
            for n in (*range(1, 21), 21, 30, 100):
                self.check(schema, report, n)

    def test_reports_that_are_not_settled(self):
        for schema, report in NOT_SETTLED:
            if has_pages(schema, report):
                for n in range(1, 5):
                    self.check(schema, report, n)

    def test_many_reports(self):
        many = 0
        for schema, report in pairs(32, 800, last=False):
            if has_pages(schema, report):
                for n in (1, 2, 3, 5, 13, 20):
                    self.check(schema, report, n)
                    many += not is_lossless(schema, report, n)
        self.assertGreater(many, 500)

    def test_small_tables_without_a_row_too_many(self):
        # Two rows show that pages of size 1 lose one, and three that pages of size 2 do.
        table, scripts = find_loss(PLAIN, SORTED, 1)
        self.assertEqual((len(table), len(scripts)), (2, 3))
        table, scripts = find_loss(PLAIN, SORTED, 2)
        self.assertEqual((len(table), len(scripts)), (3, 2))
