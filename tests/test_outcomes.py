"""Point [15]: all outcomes for a given table."""

import unittest
from itertools import permutations, product
from random import Random

from makers import reports, some_report, some_schema, some_table
from openties.errors import NoRun
from openties.outcomes import find_difference, outcomes, script_for
from openties.reports import is_report
from openties.runs import run
from openties.schemas import is_table
from openties.witnesses import is_witness
from plain import all_outcomes, all_runs
from samples import FULL, KEYED, NAMES, PLAIN, TOP, odd_values, replaced

THREE = [(1, 5, 0), (2, 4, 0), (3, 5, 0)]
BOTH = [[(2, 4, 0), (1, 5, 0)], [(2, 4, 0), (3, 5, 0)]]

EACH_STEP = [
    (),
    (("where", "b", 1),),
    (("where", "b", 7),),
    (("sort", "b"),),
    (("sort", "cb"),),
    (("stable", "b"),),
    (("first", 0),),
    (("first", 2),),
    (("skip", 2),),
    (("skip", 0),),
    (("columns", "ab"),),
    (("count", "b"),),
    (("sum", "b", "a"),),
    (("heads", "b"),),
    TOP,
    FULL,
    NAMES,
    (("sort", "b"), ("sort", "c"), ("first", 2)),
    (("sort", "b"), ("stable", "c"), ("skip", 1)),
    (("stable", "b"), ("sort", "c"), ("heads", "b")),
    (("sort", "b"), ("first", 2), ("count", "ab")),
    (("sort", "b"), ("first", 2), ("sum", "b", "a")),
    (("sort", "b"), ("skip", 1), ("heads", "c")),
    (("columns", "bc"), ("sort", "b"), ("columns", "c"), ("sort", "c"), ("first", 3)),
    (("first", 3), ("where", "a", 1), ("skip", 1), ("columns", "b")),
]

TABLES = [
    [],
    [(1, 1, 1)],
    [(1, 1, 1), (1, 1, 1)],
    [(0, 1, 0), (1, 1, 0)],
    [(1, 1, 1), (0, 2, 1), (1, 1, 0)],
    [(2, 1, 0), (0, 1, 0), (1, 0, 0), (1, 1, 1)],
    [(1, 1, 1), (0, 1, 1), (1, 1, 1), (0, 1, 1)],
    [(1, 1, 1), (0, 1, 1), (2, 0, 1), (1, 2, 1), (1, 1, 0)],
    [(0, 1, 1), (0, 1, 1), (0, 1, 1), (1, 1, 1), (0, 1, 0)],
    [(1, 1, 1)] * 5,
]


def near(outcome):
    """Lists that are near to an outcome, and values in which a part has another kind."""
    rows = list(outcome)
    for at, row in enumerate(rows):
        yield rows[:at] + rows[at + 1:]
        yield rows[:at] + [row] + rows[at:]
        yield rows[:at] + [list(row)] + rows[at + 1:]
        yield rows[:at] + [row[:-1]] + rows[at + 1:]
        yield rows[:at] + [(*row, 0)] + rows[at + 1:]
        yield rows[:at] + [()] + rows[at + 1:]
        yield rows[:at] + [None] + rows[at + 1:]
        for place, worth in enumerate(row):
            for other in (worth + 1, worth - 1, -worth, worth == 1, str(worth), None, (worth,)):
                yield rows[:at] + [(*row[:place], other, *row[place + 1:])] + rows[at + 1:]
    yield from [list(order) for order in permutations(rows)]
    yield rows + [()]
    yield rows + rows
    yield tuple(rows)
    yield dict(enumerate(rows))
    yield [rows]
    yield len(rows)


def holds_bool(value):
    if isinstance(value, (list, tuple)):
        return any(holds_bool(part) for part in value)
    return isinstance(value, bool)


class TestOutcomes(unittest.TestCase):
    def check(self, schema, report, table):
        found = outcomes(schema, report, table)
        self.assertEqual(found, sorted(list(rows) for rows in all_outcomes(schema, report, table)), (report, table))
        for outcome in found:
            self.assertIs(type(outcome), list)
            self.assertTrue(all(type(row) is tuple for row in outcome), (report, table))
        return found

    def test_example(self):
        self.assertEqual(outcomes(PLAIN, TOP, THREE), BOTH)

    def test_each_step_over_each_table(self):
        for report in EACH_STEP:
            for table in TABLES:
                self.check(PLAIN, report, table)

    def test_against_all_scripts(self):
        for schema in (PLAIN, KEYED):
            for report in EACH_STEP:
                if len([step for step in report if step[0] == "sort"]) > 1:
                    continue
                for table in TABLES:
                    if len(table) <= 4 and is_table(schema, table):
                        runs = {tuple(outcome) for _, outcome in all_runs(schema, report, table)}
                        found = outcomes(schema, report, table)
                        self.assertEqual(found, [list(rows) for rows in sorted(runs)], (report, table))

    def test_many_reports_and_tables(self):
        random = Random(41)
        sizes = {}
        for _ in range(600):
            schema = some_schema(random, most=4)
            report = some_report(random, schema, most=4, counts=(0, 1, 1, 2, 3))
            found = self.check(schema, report, some_table(random, schema, 5))
            size = min(len(found), 3)
            sizes[size] = sizes.get(size, 0) + 1
        self.assertGreater(min(sizes.get(size, 0) for size in (1, 2, 3)), 20, sizes)

    def test_the_empty_report_has_all_orders(self):
        for table in TABLES:
            orders = sorted({tuple(order) for order in permutations(table)})
            self.assertEqual(outcomes(PLAIN, (), table), [list(order) for order in orders])

    def test_the_empty_table(self):
        for report in EACH_STEP:
            self.assertEqual(outcomes(PLAIN, report, []), [[]])

    def test_large_integers(self):
        large = 10 ** 59
        table = [(large, 1, 0), (-large, 1, 0), (large + 1, 1, 0)]
        self.assertEqual(outcomes(PLAIN, TOP[:1] + (("first", 1),), table), [[table[1]], [table[0]], [table[2]]])
        self.assertEqual(outcomes(PLAIN, (("where", "a", large), ("columns", "a")), table), [[(large,)]])

    def test_several_sorts_and_equal_rows(self):
        self.assertEqual(outcomes(PLAIN, (("sort", "b"),) * 8, [(1, 1, 1)] * 5), [[(1, 1, 1)] * 5])
        table = [(at, 1, 1) for at in range(5)]
        self.assertEqual(len(outcomes(PLAIN, (("sort", "b"),) * 8, table)), 120)
        report = (("sort", "a"), ("sort", "b"), ("sort", "c"), ("stable", "b"), ("first", 1), ("columns", "a"))
        self.assertEqual(outcomes(PLAIN, report, table), [[(at,)] for at in range(5)])


class TestFindDifference(unittest.TestCase):
    def test_example(self):
        self.assertIsNone(find_difference(PLAIN, TOP, [(1, 5, 0), (2, 4, 0)]))

    def check(self, schema, report, table):
        found = find_difference(schema, report, table)
        several = len(all_outcomes(schema, report, table)) > 1
        self.assertIs(found is not None, several, (schema, report, table))
        if found is not None:
            self.assertIs(type(found), tuple)
            script, other = found
            self.assertNotEqual(run(schema, report, table, script), run(schema, report, table, other))
            self.assertIs(is_witness(schema, report, (table, script, other)), True)

    def test_each_step_over_each_table(self):
        for report in EACH_STEP:
            for table in TABLES[:7]:
                self.check(PLAIN, report, table)

    def test_many_reports_and_tables(self):
        random = Random(42)
        for _ in range(400):
            schema = some_schema(random, most=4)
            report = some_report(random, schema, most=4, counts=(0, 1, 1, 2, 3))
            self.check(schema, report, some_table(random, schema, 5))


class TestScriptFor(unittest.TestCase):
    def check(self, schema, report, table):
        """A script for each outcome, and none for the values near to it that are no outcomes."""
        found = all_outcomes(schema, report, table)
        for outcome in found:
            script = script_for(schema, report, table, list(outcome))
            self.assertEqual(run(schema, report, table, script), list(outcome), (schema, report, table))
            for value in near(outcome):
                is_list = isinstance(value, list) and all(isinstance(row, tuple) for row in value)
                if is_list and not holds_bool(value) and tuple(value) in found:
                    self.assertEqual(run(schema, report, table, script_for(schema, report, table, value)), value)
                else:
                    self.assertRaises(NoRun, script_for, schema, report, table, value)

    def test_example(self):
        self.assertRaises(NoRun, script_for, PLAIN, TOP, [(1, 5, 0), (2, 4, 0)], [])

    def test_both_outcomes(self):
        for outcome in BOTH:
            self.assertEqual(run(PLAIN, TOP, THREE, script_for(PLAIN, TOP, THREE, outcome)), outcome)
        self.check(PLAIN, TOP, THREE)

    def test_a_bool_in_an_integers_place(self):
        for table, outcome in [
            ([(1, 0, 2)], [(True, 0, 2)]),
            ([(1, 0, 2)], [(1, False, 2)]),
            ([(1, 1, 1), (0, 0, 0)], [(1, 1, 1), (0, 0, False)]),
        ]:
            self.assertRaises(NoRun, script_for, PLAIN, (), table, outcome)
            right = [tuple(int(worth) for worth in row) for row in outcome]
            self.assertEqual(run(PLAIN, (), table, script_for(PLAIN, (), table, right)), right)
        self.assertRaises(NoRun, script_for, PLAIN, (("count", "a"),), [(7, 0, 0)], [(7, True)])
        self.assertEqual(script_for(PLAIN, (("count", "a"),), [(7, 0, 0)], [(7, 1)]), [[0]])

    def test_each_step_over_small_tables(self):
        for report in EACH_STEP:
            for table in TABLES[:5]:
                self.check(PLAIN, report, table)

    def test_many_reports_and_tables(self):
        random = Random(43)
        for _ in range(40):
            schema = some_schema(random, most=3)
            report = some_report(random, schema, most=4, counts=(0, 1, 1, 2, 3))
            self.check(schema, report, some_table(random, schema, 3))
        for report in reports(44, PLAIN, 40):
            for outcome in all_outcomes(PLAIN, report, TABLES[7]):
                script = script_for(PLAIN, report, TABLES[7], list(outcome))
                self.assertEqual(run(PLAIN, report, TABLES[7], script), list(outcome), report)

    def test_the_empty_outcome(self):
        for report in ((("first", 0),), (("skip", 5),), (("where", "a", 9), ("count", "a"))):
            self.assertEqual(run(PLAIN, report, THREE, script_for(PLAIN, report, THREE, [])), [])
            for value in ((), None, False, 0, "", {}, [()], [[]], [None]):
                self.assertRaises(NoRun, script_for, PLAIN, report, THREE, value)
        self.assertEqual(script_for(PLAIN, (), [], []), [[]])
        self.assertEqual(script_for(PLAIN, TOP, [], []), [[], []])
        self.assertRaises(NoRun, script_for, PLAIN, (), THREE, [])

    def test_a_part_of_another_kind(self):
        for outcome in BOTH:
            for value in replaced(outcome):
                self.assertRaises(NoRun, script_for, PLAIN, TOP, THREE, value)

    def test_values_of_any_kind(self):
        for at, value in enumerate(odd_values()):
            with self.subTest(at=at):
                for report, table in product(((), TOP, (("count", "b"),)), (THREE, [(1, 2, 4)])):
                    self.assertRaises(NoRun, script_for, PLAIN, report, table, value)
                    self.assertRaises(NoRun, script_for, PLAIN, report, table, [value])
                self.assertRaises(NoRun, script_for, PLAIN, (), [(1, 2, 3)], [(1, 2, value)])
                self.assertRaises(NoRun, script_for, PLAIN, TOP, THREE, [(2, 4, 0), value])
                self.assertRaises(NoRun, script_for, PLAIN, TOP, THREE, [value, value, value])
                self.assertRaises(NoRun, script_for, PLAIN, (("first", 0),), THREE, [value])

    def test_reports_of_this_file_are_reports(self):
        self.assertTrue(all(is_report(PLAIN, report) for report in EACH_STEP))
