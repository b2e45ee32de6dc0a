"""Point [7]: runs, scripts and outcomes."""

import unittest
from itertools import permutations, product

from openties.errors import InvalidScript
from openties.reports import is_report
from openties.runs import first_script, run
from plain import all_runs
from samples import FULL, KEYED, NAMES, PLAIN, TOP, odd_values, replaced

ROWS = [(3, 1, 5), (1, 2, 4), (2, 1, 5), (1, 1, 9)]

# Step, and what it makes of ROWS; the runs take the rows as they are in the table.
SINGLE_STEPS = [
    (("where", "b", 1), [(3, 1, 5), (2, 1, 5), (1, 1, 9)]),
    (("where", "a", 1), [(1, 2, 4), (1, 1, 9)]),
    (("where", "c", 4), [(1, 2, 4)]),
    (("where", "c", 7), []),
    (("where", "a", -1), []),
    (("stable", "a"), [(1, 2, 4), (1, 1, 9), (2, 1, 5), (3, 1, 5)]),
    (("stable", "b"), [(3, 1, 5), (2, 1, 5), (1, 1, 9), (1, 2, 4)]),
    (("stable", "c"), [(1, 2, 4), (3, 1, 5), (2, 1, 5), (1, 1, 9)]),
    (("stable", "ba"), [(1, 1, 9), (2, 1, 5), (3, 1, 5), (1, 2, 4)]),
    (("stable", "ab"), [(1, 1, 9), (1, 2, 4), (2, 1, 5), (3, 1, 5)]),
    (("stable", "cb"), [(1, 2, 4), (3, 1, 5), (2, 1, 5), (1, 1, 9)]),
    (("first", 0), []),
    (("first", 1), ROWS[:1]),
    (("first", 3), ROWS[:3]),
    (("first", 4), ROWS),
    (("first", 5), ROWS),
    (("first", 20), ROWS),
    (("skip", 0), ROWS),
    (("skip", 1), ROWS[1:]),
    (("skip", 3), ROWS[3:]),
    (("skip", 4), []),
    (("skip", 5), []),
    (("skip", 20), []),
    (("columns", "a"), [(3,), (1,), (2,), (1,)]),
    (("columns", "bc"), [(1, 5), (2, 4), (1, 5), (1, 9)]),
    (("columns", "ac"), [(3, 5), (1, 4), (2, 5), (1, 9)]),
    (("columns", "abc"), ROWS),
    (("count", "a"), [(1, 2), (2, 1), (3, 1)]),
    (("count", "b"), [(1, 3), (2, 1)]),
    (("count", "bc"), [(1, 5, 2), (1, 9, 1), (2, 4, 1)]),
    (("count", "abc"), [(1, 1, 9, 1), (1, 2, 4, 1), (2, 1, 5, 1), (3, 1, 5, 1)]),
    (("sum", "a", "b"), [(1, 3), (2, 1), (3, 1)]),
    (("sum", "b", "a"), [(1, 6), (2, 1)]),
    (("sum", "b", "c"), [(1, 19), (2, 4)]),
    (("sum", "bc", "a"), [(1, 5, 5), (1, 9, 1), (2, 4, 1)]),
    (("heads", "a"), [(1, 2, 4), (2, 1, 5), (3, 1, 5)]),
    (("heads", "b"), [(3, 1, 5), (1, 2, 4)]),
    (("heads", "bc"), [(3, 1, 5), (1, 1, 9), (1, 2, 4)]),
]

# Report, and the outcome of its first script over ROWS.
SEVERAL_STEPS = [
    ((("where", "b", 1), ("stable", "a"), ("first", 2)), [(1, 1, 9), (2, 1, 5)]),
    ((("first", 2), ("where", "b", 2)), [(1, 2, 4)]),
    ((("where", "b", 2), ("first", 2)), [(1, 2, 4)]),
    ((("skip", 1), ("first", 2)), [(1, 2, 4), (2, 1, 5)]),
    ((("first", 2), ("skip", 1)), [(1, 2, 4)]),
    ((("skip", 1), ("skip", 2)), [(1, 1, 9)]),
    ((("columns", "bc"), ("sort", "c")), [(2, 4), (1, 5), (1, 5), (1, 9)]),
    ((("columns", "bc"), ("stable", "cb"), ("columns", "b")), [(2,), (1,), (1,), (1,)]),
    ((("columns", "ac"), ("where", "c", 5), ("columns", "a")), [(3,), (2,)]),
    ((("sort", "a"), ("sort", "b")), [(1, 1, 9), (2, 1, 5), (3, 1, 5), (1, 2, 4)]),
    ((("stable", "a"), ("stable", "b")), [(1, 1, 9), (2, 1, 5), (3, 1, 5), (1, 2, 4)]),
    ((("columns", "bc"), ("count", "b")), [(1, 3), (2, 1)]),
    ((("columns", "bc"), ("sum", "b", "c")), [(1, 19), (2, 4)]),
    ((("columns", "bc"), ("heads", "c")), [(2, 4), (1, 5), (1, 9)]),
    ((("columns", "bc"), ("sum", "c", "b")), [(4, 2), (5, 2), (9, 1)]),
    ((("stable", "a"), ("heads", "b")), [(1, 1, 9), (1, 2, 4)]),
    ((("first", 3), ("count", "b")), [(1, 2), (2, 1)]),
    ((("skip", 1), ("sum", "b", "c")), [(1, 14), (2, 4)]),
    ((("where", "b", 3), ("count", "a")), []),
    ((("first", 0), ("sum", "a", "b")), []),
    ((("skip", 4), ("heads", "a")), []),
]

# Report, table, script and outcome, where the script chooses.
CHOICES = [
    ((), ROWS, [[0, 1, 2, 3]], ROWS),
    ((), ROWS, [[2, 0, 3, 1]], [ROWS[2], ROWS[0], ROWS[3], ROWS[1]]),
    ((("sort", "b"),), ROWS, [[0, 1, 2, 3], [0, 2, 3, 1]], [ROWS[0], ROWS[2], ROWS[3], ROWS[1]]),
    ((("sort", "b"),), ROWS, [[0, 1, 2, 3], [3, 0, 2, 1]], [ROWS[3], ROWS[0], ROWS[2], ROWS[1]]),
    ((("sort", "b"),), ROWS, [[1, 3, 2, 0], [1, 2, 3, 0]], [ROWS[3], ROWS[2], ROWS[0], ROWS[1]]),
    ((("sort", "bc"),), ROWS, [[0, 1, 2, 3], [2, 0, 3, 1]], [ROWS[2], ROWS[0], ROWS[3], ROWS[1]]),
    # 'stable' behind 'sort' keeps the order that the script chose.
    ((("sort", "b"), ("stable", "c")), ROWS, [[0, 1, 2, 3], [2, 3, 0, 1]], [ROWS[1], ROWS[2], ROWS[0], ROWS[3]]),
    ((("sort", "b"), ("stable", "c")), ROWS, [[0, 1, 2, 3], [0, 3, 2, 1]], [ROWS[1], ROWS[0], ROWS[2], ROWS[3]]),
    # 'sort' behind 'stable' leaves the order open again.
    ((("stable", "a"), ("sort", "b")), ROWS, [[0, 1, 2, 3], [3, 2, 1, 0]], [ROWS[0], ROWS[2], ROWS[3], ROWS[1]]),
    ((("stable", "a"), ("sort", "b")), ROWS, [[0, 1, 2, 3], [1, 2, 3, 0]], [ROWS[3], ROWS[2], ROWS[0], ROWS[1]]),
    # The second permutation is one of the rows that are there at that moment.
    ((("where", "b", 1), ("sort", "b")), ROWS, [[3, 2, 1, 0], [1, 0, 2]], [ROWS[2], ROWS[3], ROWS[0]]),
    ((("where", "b", 7), ("sort", "b")), ROWS, [[3, 2, 1, 0], []], []),
    ((("sort", "c"), ("sort", "b"), ("first", 1)), ROWS, [[0, 1, 2, 3], [1, 2, 0, 3], [3, 1, 2, 0]], [ROWS[3]]),
    ((("columns", "bc"), ("sort", "b")), ROWS, [[0, 1, 2, 3], [3, 2, 0, 1]], [(1, 9), (1, 5), (1, 5), (2, 4)]),
    # Groups, with rows in another order.
    ((("heads", "b"),), ROWS, [[3, 2, 1, 0]], [(1, 1, 9), (1, 2, 4)]),
    ((("heads", "b"),), ROWS, [[2, 1, 0, 3]], [(2, 1, 5), (1, 2, 4)]),
    ((("sort", "b"), ("heads", "c")), ROWS, [[0, 1, 2, 3], [2, 0, 3, 1]], [(1, 2, 4), (2, 1, 5), (1, 1, 9)]),
    ((("count", "b"),), ROWS, [[1, 3, 0, 2]], [(1, 3), (2, 1)]),
    ((("sum", "b", "a"),), ROWS, [[1, 3, 0, 2]], [(1, 6), (2, 1)]),
    # Equal rows.
    ((("sort", "a"), ("count", "a")), [(1, 2, 3)] * 3, [[2, 0, 1], [1, 2, 0]], [(1, 3)]),
    # The empty table and one row.
    ((), [], [[]], []),
    (TOP, [], [[], []], []),
    ((("sort", "a"), ("sort", "b"), ("heads", "a")), [], [[], [], []], []),
    (TOP, [(1, 2, 3)], [[0], [0]], [(1, 2, 3)]),
]

# For TOP and three rows; the second list has to be [1, 0, 2] or [1, 2, 0] if the first one is [0, 1, 2].
THREE = [(1, 5, 0), (2, 4, 0), (3, 5, 0)]
WRONG_SCRIPTS = [
    # lists too many and too few
    [],
    [[]],
    [[0, 1, 2]],
    [[1, 0, 2]],
    [[0, 1, 2], [1, 0, 2], []],
    [[0, 1, 2], [1, 0, 2], [0, 1]],
    [[0, 1, 2], [1, 0, 2], [0, 1, 2]],
    [[], [1, 0, 2]],
    [[0, 1, 2], []],
    # indices
    [[0, 1], [1, 0, 2]],
    [[0, 1, 2], [1, 0]],
    [[0, 1, 2, 3], [1, 0, 2]],
    [[0, 1, 2], [1, 0, 2, 3]],
    [[0, 1, 2], [1, 0, 2, 2]],
    [[0, 1, 1], [1, 0, 2]],
    [[0, 0, 1], [0, 1, 2]],
    [[0, 1, 2], [1, 0, 0]],
    [[0, 1, 2], [1, 1, 2]],
    [[0, 1, 3], [1, 0, 2]],
    [[1, 2, 3], [0, 1, 2]],
    [[0, 1, -1], [1, 0, 2]],
    [[0, 1, 2], [1, 0, 3]],
    [[0, 1, 2], [1, 0, -1]],
    [[0, 1, 2], [-2, 0, 2]],
    [[0, 1, 10 ** 60], [1, 0, 2]],
    [[0, 1, 2], [1, 0, -(10 ** 3999)]],
    # kinds
    [[0, True, 2], [1, 0, 2]],
    [[False, 1, 2], [1, 0, 2]],
    [[0, 1, 2], [True, 0, 2]],
    [[0, 1, 2], [1, False, 2]],
    [[0, 1, 2], (1, 0, 2)],
    [(0, 1, 2), [1, 0, 2]],
    ([0, 1, 2], [1, 0, 2]),
    {0: [0, 1, 2], 1: [1, 0, 2]},
    [[0, 1, 2], {1: 1, 0: 0, 2: 2}],
    [[0, 1, 2], "102"],
    ["012", [1, 0, 2]],
    [["0", "1", "2"], [1, 0, 2]],
    [[0, 1, 2], [1, 0, None]],
    [[0, 1, 2], [[1, 0, 2]]],
    [[0, 1, 2], [[1], 0, 2]],
    [[0, 1, 2], None],
    [[[0, 1, 2], [1, 0, 2]]],
    # rows that are not in ascending order
    [[0, 1, 2], [0, 1, 2]],
    [[0, 1, 2], [0, 2, 1]],
    [[0, 1, 2], [2, 0, 1]],
    [[0, 1, 2], [2, 1, 0]],
    [[1, 0, 2], [1, 0, 2]],
    [[1, 0, 2], [1, 2, 0]],
    [[2, 0, 1], [1, 0, 2]],
]


class TestRun(unittest.TestCase):
    def check_refused(self, schema, report, table, script):
        with self.assertRaises(InvalidScript) as caught:
            run(schema, report, table, script)
        self.assertIsInstance(caught.exception.args[0], str)

    def test_examples(self):
        self.assertEqual(run(PLAIN, TOP, THREE, [[0, 1, 2], [1, 0, 2]]), [(2, 4, 0), (1, 5, 0)])
        self.assertEqual(run(PLAIN, TOP, THREE, [[0, 1, 2], [1, 2, 0]]), [(2, 4, 0), (3, 5, 0)])
        self.check_refused(PLAIN, TOP, [(1, 5, 0), (2, 4, 0)], [[0, 1], [0, 1]])

    def test_each_step_alone(self):
        for step, outcome in SINGLE_STEPS:
            self.assertEqual(run(PLAIN, (step,), ROWS, [[0, 1, 2, 3]]), outcome, step)

    def test_several_steps(self):
        for report, outcome in SEVERAL_STEPS:
            self.assertEqual(run(PLAIN, report, ROWS, first_script(PLAIN, report, ROWS)), outcome, report)

    def test_what_the_script_chooses(self):
        for report, table, script, outcome in CHOICES:
            self.assertEqual(run(PLAIN, report, table, script), outcome, (report, script))

    def test_rows_of_an_outcome_are_tuples_in_a_list(self):
        for report in [(step,) for step, _ in SINGLE_STEPS] + [report for report, _ in SEVERAL_STEPS]:
            outcome = run(PLAIN, report, ROWS, first_script(PLAIN, report, ROWS))
            self.assertIs(type(outcome), list, report)
            self.assertEqual([row for row in outcome if type(row) is not tuple], [], report)

    def test_negative_and_large_numbers(self):
        big = 10 ** 60
        table = [(big, -1, 0), (-big, -1, 5), (0, 2, -7)]
        self.assertEqual(run(PLAIN, (("sort", "a"),), table, [[0, 1, 2], [1, 2, 0]]), [table[1], table[2], table[0]])
        self.assertEqual(run(PLAIN, (("sum", "b", "a"),), table, [[0, 1, 2]]), [(-1, 0), (2, 0)])
        self.assertEqual(run(PLAIN, (("sum", "b", "c"),), table, [[2, 1, 0]]), [(-1, 5), (2, -7)])
        self.assertEqual(run(PLAIN, (("where", "a", -big),), table, [[0, 1, 2]]), [table[1]])
        self.assertEqual(run(PLAIN, (("stable", "bc"),), table, [[1, 0, 2]]), [table[0], table[1], table[2]])

    def test_another_schema(self):
        schema = ("bxz", (("b", "z"),), ("x",))
        table = [(2, 1, 0), (1, 2, 7), (2, 3, 0)]
        report = (("where", "z", 0), ("columns", "bx"), ("sort", "b"), ("first", 1))
        self.assertEqual(run(schema, report, table, [[0, 1, 2], [1, 0]]), [(2, 3)])
        self.assertEqual(run(schema, report, table, [[2, 1, 0], [1, 0]]), [(2, 1)])
        self.assertEqual(run(("z", (), ()), (("count", "z"),), [(4,), (3,), (4,)], [[0, 1, 2]]), [(3, 1), (4, 2)])

    def test_all_runs_of_small_tables(self):
        reports = [
            TOP,
            FULL,
            NAMES,
            (("sort", "c"), ("sort", "b")),
            (("sort", "a"), ("stable", "b"), ("heads", "c")),
            (("columns", "bc"), ("sort", "c"), ("skip", 1)),
            (("where", "b", 1), ("sort", "c"), ("columns", "ac"), ("sort", "a"), ("first", 1)),
            (("sort", "b"), ("count", "bc")),
            (("sort", "b"), ("skip", 1), ("sum", "b", "a")),
        ]
        for report in reports:
            for table in (THREE, ROWS[:3], [(1, 1, 1)] * 3, ROWS[2:], []):
                right = all_runs(PLAIN, report, table)
                for script, outcome in right:
                    self.assertEqual(run(PLAIN, report, table, script), outcome, (report, table, script))
                scripts = [script for script, _ in right]
                self.assertIn(first_script(PLAIN, report, table), scripts)

    def test_exactly_the_wrong_ones_of_all_lists_of_permutations_are_refused(self):
        report = (("where", "c", 5), ("sort", "b"), ("sort", "a"))
        table = [(1, 2, 5), (1, 1, 5), (0, 1, 4), (0, 2, 5)]
        right = [script for script, _ in all_runs(PLAIN, report, table)]
        for last in product([list(order) for many in (2, 3) for order in permutations(range(many))], repeat=2):
            for start in ([0, 1, 2, 3], [3, 1, 0, 2]):
                script = [start, *last]
                if script in right:
                    run(PLAIN, report, table, script)
                else:
                    self.check_refused(PLAIN, report, table, script)

    def test_wrong_scripts(self):
        for script in WRONG_SCRIPTS:
            with self.subTest(script=str(script)[:200]):
                self.check_refused(PLAIN, TOP, THREE, script)

    def test_wrong_scripts_without_a_sort(self):
        for script in ([], [[0, 1]], [[0, 1, 2], [0, 1, 2]], [[0, 1, 2], []], [0, 1, 2], ([0, 1, 2],), [(0, 1, 2)]):
            self.check_refused(PLAIN, (), THREE, script)
            self.check_refused(PLAIN, (("stable", "b"), ("first", 2)), THREE, script)

    def test_wrong_scripts_for_the_empty_table(self):
        for script in ([], [[], []], [[0]], [()], ([],), [{}], [""], {}, "", None, 0, False):
            self.check_refused(PLAIN, (), [], script)
        for script in ([[]], [[], [], []], [[], [0]], [[], ()], [[], None], [[], ""], [[], {}]):
            self.check_refused(PLAIN, TOP, [], script)

    def test_a_permutation_of_the_rows_at_another_moment(self):
        report = (("where", "b", 5), ("sort", "c"))
        self.assertEqual(run(PLAIN, report, THREE, [[0, 1, 2], [1, 0]]), [THREE[2], THREE[0]])
        self.check_refused(PLAIN, report, THREE, [[0, 1, 2], [0, 1, 2]])
        self.check_refused(PLAIN, report, THREE, [[0, 1], [0, 1]])

    def test_a_sort_by_a_later_column(self):
        table = [(1, 2, 0), (1, 1, 0), (0, 3, 0)]
        report = (("sort", "ab"),)
        self.assertEqual(run(PLAIN, report, table, [[0, 1, 2], [2, 1, 0]]), [table[2], table[1], table[0]])
        self.check_refused(PLAIN, report, table, [[0, 1, 2], [2, 0, 1]])
        self.check_refused(PLAIN, (("sort", "ba"),), table, [[0, 1, 2], [2, 1, 0]])

    def test_a_part_of_another_kind(self):
        for report, script in ((TOP, [[0, 1, 2], [1, 0, 2]]), ((), [[2, 0, 1]])):
            for value in replaced(script):
                self.check_refused(PLAIN, report, THREE, value)

    def test_values_of_any_kind(self):
        for at, value in enumerate(odd_values()):
            with self.subTest(at=at):
                for report, table in product(((), TOP), (THREE, THREE[:2])):
                    self.check_refused(PLAIN, report, table, value)
                    self.check_refused(PLAIN, report, table, [value] * (1 + len(report) // 2))
                    self.check_refused(PLAIN, report, table, [list(range(len(table))), value])
                self.check_refused(PLAIN, TOP, THREE, [[0, 1, 2], [1, 0, value]])
                self.check_refused(PLAIN, TOP, THREE, [[0, 1, value], [1, 0, 2]])

    def test_what_runs_returned_as_a_script(self):
        script = first_script(PLAIN, TOP, THREE)
        outcome = run(PLAIN, TOP, THREE, script)
        for value in (outcome, [outcome, outcome], script * 2, [script], tuple(script), script[:1]):
            self.check_refused(PLAIN, TOP, THREE, value)
        self.assertEqual(run(PLAIN, TOP, THREE, script[::-1]), [(2, 4, 0), (1, 5, 0)])


class TestFirstScript(unittest.TestCase):
    def test_example(self):
        self.assertEqual(first_script(PLAIN, TOP, [(1, 5, 0), (2, 4, 0)]), [[0, 1], [1, 0]])

    def test_one_list_for_the_start_and_one_for_each_sort(self):
        for report, script in [
            ((), [[0, 1, 2, 3]]),
            ((("stable", "b"),), [[0, 1, 2, 3]]),
            ((("first", 2), ("columns", "a")), [[0, 1, 2, 3]]),
            ((("count", "b"),), [[0, 1, 2, 3]]),
            ((("sort", "b"),), [[0, 1, 2, 3], [0, 2, 3, 1]]),
            ((("sort", "a"),), [[0, 1, 2, 3], [1, 3, 2, 0]]),
            ((("sort", "ab"),), [[0, 1, 2, 3], [3, 1, 2, 0]]),
            ((("sort", "cb"),), [[0, 1, 2, 3], [1, 0, 2, 3]]),
            # Behind the first sort the rows 1, 3, 2, 0 of the table are in this order.
            ((("sort", "a"), ("sort", "b")), [[0, 1, 2, 3], [1, 3, 2, 0], [1, 2, 3, 0]]),
            ((("sort", "a"), ("sort", "c")), [[0, 1, 2, 3], [1, 3, 2, 0], [0, 2, 3, 1]]),
            ((("stable", "a"), ("sort", "b")), [[0, 1, 2, 3], [1, 2, 3, 0]]),
            ((("sort", "b"), ("stable", "a"), ("sort", "c")), [[0, 1, 2, 3], [0, 2, 3, 1], [1, 2, 3, 0]]),
            ((("where", "b", 1), ("sort", "a")), [[0, 1, 2, 3], [2, 1, 0]]),
            ((("where", "b", 9), ("sort", "a")), [[0, 1, 2, 3], []]),
            ((("columns", "bc"), ("sort", "c"), ("sort", "b")), [[0, 1, 2, 3], [1, 0, 2, 3], [1, 2, 3, 0]]),
        ]:
            self.assertEqual(first_script(PLAIN, report, ROWS), script, report)

    def test_equal_rows_stay_in_their_order_at_each_sort(self):
        table = [(1, 1, 0), (0, 1, 1), (1, 0, 2), (1, 1, 3), (0, 1, 4)]
        self.assertEqual(
            first_script(PLAIN, (("sort", "b"), ("sort", "a"), ("sort", "b")), table),
            [[0, 1, 2, 3, 4], [2, 0, 1, 3, 4], [2, 4, 0, 1, 3], [2, 0, 1, 3, 4]],
        )
        same = [(1, 1, 1)] * 4
        self.assertEqual(first_script(PLAIN, (("sort", "b"), ("sort", "ca")), same), [[0, 1, 2, 3]] * 3)

    def test_the_empty_table(self):
        self.assertEqual(first_script(PLAIN, (), []), [[]])
        self.assertEqual(first_script(PLAIN, FULL, []), [[], []])

    def test_run_accepts_it(self):
        steps = [("where", "b", 1), ("sort", "a"), ("sort", "cb"), ("stable", "b"), ("columns", "bc"), ("first", 2),
                 ("skip", 1), ("heads", "b"), ("sum", "b", "c"), ("count", "c")]
        for many in range(4):
            for report in product(steps, repeat=many):
                if is_report(PLAIN, report):
                    for table in (ROWS, ROWS * 2, []):
                        script = first_script(PLAIN, report, table)
                        self.assertEqual(script[0], list(range(len(table))))
                        run(PLAIN, report, table, script)

    def test_a_table_with_rules_and_a_key(self):
        table = [(4, 1, 6), (2, 1, 6), (3, 0, 6)]
        self.assertEqual(first_script(KEYED, FULL, table), [[0, 1, 2], [2, 1, 0]])
        self.assertEqual(run(KEYED, FULL, table, [[0, 1, 2], [2, 1, 0]]), [(3, 0, 6), (2, 1, 6)])
