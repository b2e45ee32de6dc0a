"""Point [16]: reports whose order is chosen by a function."""

import unittest
from itertools import product
from random import Random

from makers import reports, some_report, some_schema, some_table
from openties.choosers import play
from openties.runs import first_script, run
from plain import all_outcomes, picked, rows_by_step
from samples import FULL, KEYED, NAMES, PLAIN, TOP, odd_values

THREE = [(1, 5, 0), (2, 4, 0), (3, 5, 0)]
FIVE = [(1, 2, 0), (2, 1, 0), (3, 2, 1), (4, 1, 0), (5, 2, 0)]


class Recorder:
    """A function that keeps copies of the lists that it gets, and chooses as another function does."""

    def __init__(self, choose):
        self.choose = choose
        self.lists = []

    def __call__(self, rows):
        self.lists.append(list(rows))
        return self.choose(rows)


class Trouble(Exception):
    pass


def as_they_are(rows):
    return list(range(len(rows)))


def turned(rows):
    return list(range(len(rows)))[::-1]


def filled_anew(rows):
    rows[:] = range(len(rows) - 1, -1, -1)
    return rows


def emptied(rows):
    rows.clear()


def plain_play(schema, report, table, choose):
    """What play returns, by the words of point [16], with plain words for the groups."""
    script, rows, kept = [], list(table), schema[0]
    for step in (("sort", ""), *report):
        if step[0] != "sort":
            rows = rows_by_step(kept, rows, step)
            kept = step[1] if step[0] == "columns" else kept
            continue
        found, order = [], []
        for value in sorted({picked(kept, step[1], row) for row in rows}):
            found.append([at for at, row in enumerate(rows) if picked(kept, step[1], row) == value])
        for group in found:
            chosen = choose([rows[at] for at in group]) if len(group) > 1 else [0]
            good = type(chosen) is list and all(type(part) is int for part in chosen)
            if good and sorted(chosen) == list(range(len(group))):
                group = [group[at] for at in chosen]
            order += group
        script.append(order)
        rows = [rows[at] for at in order]
    return rows, script


class TestPlay(unittest.TestCase):
    def calls(self, schema, report, table, choose=as_they_are):
        recorder = Recorder(choose)
        found = play(schema, report, table, recorder)
        self.assertIs(type(found), tuple)
        outcome, script = found
        self.assertEqual(run(schema, report, table, script), outcome)
        return recorder.lists, outcome, script

    def test_example(self):
        found = play(PLAIN, TOP, THREE, len)
        self.assertEqual(found, ([(2, 4, 0), (1, 5, 0)], [[0, 1, 2], [1, 0, 2]]))

    def test_all_rows_at_the_start(self):
        lists, outcome, script = self.calls(PLAIN, (), FIVE, turned)
        self.assertEqual((lists, outcome, script), ([FIVE], FIVE[::-1], [[4, 3, 2, 1, 0]]))
        # Also those that are equal in no column, and those that are equal in all.
        self.assertEqual(self.calls(PLAIN, (), [(1, 2, 3), (4, 5, 6)])[0], [[(1, 2, 3), (4, 5, 6)]])
        self.assertEqual(self.calls(PLAIN, (), [(1, 2, 3)] * 3)[0], [[(1, 2, 3)] * 3])

    def test_few_rows_at_the_start(self):
        for table in ([], [(1, 2, 3)]):
            for report in ((), TOP, (("sort", "a"), ("sort", "b"), ("heads", "c"))):
                lists, outcome, script = self.calls(PLAIN, report, table, turned)
                self.assertEqual(lists, [])
                self.assertEqual(outcome, table)
                self.assertEqual(script, first_script(PLAIN, report, table))

    def test_a_sort_with_several_groups(self):
        lists, outcome, script = self.calls(PLAIN, (("sort", "b"),), FIVE, turned)
        start = FIVE[::-1]
        ones, twos = [(4, 1, 0), (2, 1, 0)], [(5, 2, 0), (3, 2, 1), (1, 2, 0)]
        self.assertEqual(lists, [FIVE, ones, twos])
        self.assertEqual(outcome, ones[::-1] + twos[::-1])
        self.assertEqual(script, [[4, 3, 2, 1, 0], [3, 1, 4, 2, 0]])
        self.assertEqual([start[at] for at in script[1]], outcome)
        # A group of one row is not asked about.
        lists, outcome, _ = self.calls(PLAIN, (("sort", "bc"),), FIVE)
        self.assertEqual(lists, [FIVE, [(2, 1, 0), (4, 1, 0)], [(1, 2, 0), (5, 2, 0)]])
        self.assertEqual(outcome, [(2, 1, 0), (4, 1, 0), (1, 2, 0), (5, 2, 0), (3, 2, 1)])
        self.assertEqual(self.calls(PLAIN, (("sort", "a"),), FIVE)[0], [FIVE])

    def test_groups_in_the_order_of_the_columns(self):
        table = [(1, 3, 0), (1, 1, 1), (0, 3, 2), (0, 1, 3), (1, 1, 4), (0, 3, 5), (1, 3, 6), (0, 1, 7)]
        lists = self.calls(PLAIN, (("sort", "ba"),), table)[0][1:]
        self.assertEqual([group[0][:2] for group in lists], [(0, 1), (1, 1), (0, 3), (1, 3)])
        lists = self.calls(PLAIN, (("sort", "ab"),), table)[0][1:]
        self.assertEqual([group[0][:2] for group in lists], [(0, 1), (0, 3), (1, 1), (1, 3)])

    def test_rows_have_the_kept_columns(self):
        lists, outcome, script = self.calls(PLAIN, (("columns", "bc"), ("sort", "b")), FIVE, turned)
        self.assertEqual(lists, [FIVE, [(1, 0), (1, 0)], [(2, 0), (2, 1), (2, 0)]])
        self.assertEqual(outcome, [(1, 0), (1, 0), (2, 0), (2, 1), (2, 0)])
        self.assertEqual(script, [[4, 3, 2, 1, 0], [3, 1, 4, 2, 0]])

    def test_a_second_sort(self):
        report = (("sort", "b"), ("sort", "c"), ("first", 3))
        lists, outcome, script = self.calls(PLAIN, report, FIVE, lambda rows: [len(rows) - 1, *range(len(rows) - 1)])
        start = [FIVE[4], *FIVE[:4]]
        self.assertEqual(lists[0], FIVE)
        self.assertEqual(lists[1:3], [[(2, 1, 0), (4, 1, 0)], [(5, 2, 0), (1, 2, 0), (3, 2, 1)]])
        after = [(4, 1, 0), (2, 1, 0), (3, 2, 1), (5, 2, 0), (1, 2, 0)]
        self.assertEqual([start[at] for at in script[1]], after)
        self.assertEqual(lists[3:], [[(4, 1, 0), (2, 1, 0), (5, 2, 0), (1, 2, 0)]])
        self.assertEqual(outcome, [(1, 2, 0), (4, 1, 0), (2, 1, 0)])

    def test_other_steps_call_nothing(self):
        table = [(1, 1, 1)] * 4
        for step in [("where", "a", 1), ("stable", "a"), ("stable", "cb"), ("first", 3), ("skip", 1), ("columns", "b"),
                     ("count", "a"), ("sum", "a", "b"), ("heads", "a")]:
            self.assertEqual(self.calls(PLAIN, (step,), table, turned)[0], [table], step)

    def test_filters_and_cuts(self):
        lists, outcome, _ = self.calls(PLAIN, (("where", "b", 2), ("sort", "c"), ("skip", 1)), FIVE, turned)
        self.assertEqual(lists, [FIVE, [(5, 2, 0), (1, 2, 0)]])
        self.assertEqual(outcome, [(5, 2, 0), (3, 2, 1)])
        lists, outcome, _ = self.calls(PLAIN, (("where", "b", 7), ("sort", "c"), ("heads", "a")), FIVE, turned)
        self.assertEqual((lists, outcome), ([FIVE], []))
        lists, outcome, _ = self.calls(PLAIN, (("sort", "b"), ("heads", "b")), FIVE, turned)
        self.assertEqual(outcome, [(2, 1, 0), (1, 2, 0)])

    def test_any_permutation(self):
        for order in ([1, 2, 0], [2, 0, 1], [0, 2, 1], [0, 1, 2]):
            found = play(PLAIN, (), THREE, lambda rows: list(order))
            self.assertEqual(found, ([THREE[at] for at in order], [order]))
            # The same list, returned each time, is not kept.
            report = (("sort", "c"), ("columns", "a"))
            outcome, script = play(PLAIN, report, THREE, lambda rows: order)
            self.assertEqual(script, [order, order])
            script[0].clear()
            script[1].append(7)
            self.assertEqual(len(order), 3)
            self.assertEqual(outcome, [(THREE[order[at]][0],) for at in order])

    def test_the_list_filled_anew(self):
        self.assertEqual(play(PLAIN, (), THREE, filled_anew), (THREE[::-1], [[2, 1, 0]]))
        self.assertEqual(play(PLAIN, TOP, THREE, filled_anew), ([(2, 4, 0), (1, 5, 0)], [[2, 1, 0], [1, 2, 0]]))

    def test_other_values_leave_the_rows_as_they_are(self):
        report = (("sort", "c"),)
        right = (THREE, [[0, 1, 2], [0, 1, 2]])
        for value in [
            None, True, 0, "210", (2, 1, 0), [], [0], [2, 1], [2, 1, 0, 3], [0, 1, 1], [2, 2, 0], [1, 2, 3], [-1, 1, 0],
            [2, True, 0], [2, 1, False], [True, False, 2], ["2", "1", "0"], [[2, 1, 0]], [2, 1, None],
            {2: 0, 1: 1, 0: 2}, [(2,), (1,), (0,)], [10 ** 59, 1, 0], THREE,
        ]:
            self.assertEqual(play(PLAIN, report, THREE, lambda rows: value), right, value)
        for at, value in enumerate(odd_values()):
            with self.subTest(at=at):
                self.assertEqual(play(PLAIN, report, THREE, lambda rows: value), right)
                self.assertEqual(play(PLAIN, report, THREE, lambda rows: [value, 0, 0]), right)
                self.assertEqual(play(PLAIN, report, THREE, lambda rows: [value, value, value]), right)

    def test_a_function_that_empties_its_list(self):
        self.assertEqual(self.calls(PLAIN, (("sort", "c"),), THREE, emptied)[0], [THREE, THREE])
        self.assertEqual(play(PLAIN, (("sort", "c"),), THREE, emptied), (THREE, [[0, 1, 2], [0, 1, 2]]))

    def test_a_function_that_changes_its_list_before_it_chooses(self):
        def choose(rows):
            order = turned(rows)
            rows.append("changed")
            rows[0] = None
            return order

        self.assertEqual(play(PLAIN, (), THREE, choose), (THREE[::-1], [[2, 1, 0]]))

    def test_each_call_gets_a_new_list(self):
        kept = []
        play(PLAIN, (("sort", "b"), ("sort", "b")), FIVE, kept.append)
        self.assertEqual(len(kept), 5)
        self.assertEqual(len({id(rows) for rows in kept}), 5)
        self.assertEqual(kept[1:3], kept[3:])
        outcome, script = play(PLAIN, (), FIVE, kept.append)
        kept[-1].clear()
        self.assertEqual((outcome, script), (FIVE, [[0, 1, 2, 3, 4]]))

    def test_a_table_that_the_function_changes(self):
        table = list(FIVE)

        def choose(rows):
            table.clear()
            return turned(rows)

        self.assertEqual(play(PLAIN, TOP, table, choose), play(PLAIN, TOP, FIVE, turned))

    def test_an_error_is_not_caught(self):
        for error in (Trouble, ValueError, IndexError, KeyError, TypeError, StopIteration, RuntimeError):
            def choose(rows, error=error):
                raise error("trouble")

            self.assertRaises(error, play, PLAIN, TOP, THREE, choose)
            # No call, no error.
            self.assertEqual(play(PLAIN, TOP, THREE[:1], choose), (THREE[:1], [[0], [0]]))

        def later(rows):
            if len(rows) == 2:
                raise Trouble
            return turned(rows)

        self.assertRaises(Trouble, play, PLAIN, TOP, THREE, later)
        self.assertEqual(play(PLAIN, (("sort", "c"),), THREE, later)[0], THREE)

    def test_a_settled_report_has_its_outcome_against_all(self):
        table = [(1, 5, 7), (2, 4, 7), (3, 5, 7), (4, 5, 7)]
        for report, choose in product((FULL, NAMES), (as_they_are, turned, filled_anew, emptied, len)):
            self.assertEqual(play(KEYED, report, table, choose)[0], play(KEYED, report, table, len)[0])

    def test_many_reports_against_the_words_of_the_point(self):
        random = Random(51)
        functions = [as_they_are, turned, len, lambda rows: sorted(range(len(rows)), key=lambda at: (at % 2, -at))]
        for _ in range(500):
            schema = some_schema(random)
            report, table = some_report(random, schema), some_table(random, schema, 9)
            for choose in functions:
                recorder, other = Recorder(choose), Recorder(choose)
                found = play(schema, report, table, recorder)
                self.assertEqual(found, plain_play(schema, report, table, other), (schema, report, table))
                self.assertEqual(recorder.lists, other.lists, (schema, report, table))
                self.assertEqual(run(schema, report, table, found[1]), found[0], (schema, report, table))

    def test_all_choices_have_all_outcomes(self):
        table = [(1, 1, 0), (2, 1, 0), (0, 2, 0)]
        for report in reports(52, PLAIN, 60, most=5, counts=(1, 1, 2)):
            found = set()
            for seed in range(40):
                random = Random(seed)
                found.add(tuple(play(PLAIN, report, table, lambda rows: random.sample(range(len(rows)), len(rows)))[0]))
            self.assertEqual(found, all_outcomes(PLAIN, report, table), report)
