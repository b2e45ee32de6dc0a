"""Point [12]: witnesses."""

import unittest

from makers import pairs, reports
from openties.knowledge import EMPTY, derive, is_settled
from openties.reports import is_report
from openties.runs import run
from openties.schemas import is_schema, is_table
from openties.witnesses import find_witness, is_witness
from plain import all_outcomes
from samples import FULL, KEYED, NAMES, PLAIN, TOP, odd_values, replaced
from test_knowledge import NOT_SETTLED, PAIRED, REACHED, SETTLED

TABLE = [(1, 5, 0), (2, 4, 0), (3, 5, 0)]
SCRIPT, OTHER = [[0, 1, 2], [1, 0, 2]], [[0, 1, 2], [1, 2, 0]]
BROAD = ("abcde", (("a", "b"), ("cd", "e"), ("e", "c")), ("ad",))

# Schema and a report that is not settled, where a witness needs more than two rows that are equal in all sorts.
HARD = [
    # cuts that skip more than they keep, and several cuts
    (PLAIN, (("sort", "b"), ("skip", 20), ("first", 1))),
    (PLAIN, (("sort", "b"), ("first", 20), ("skip", 19))),
    (PLAIN, (("skip", 20),) * 8),
    (PLAIN, (("skip", 7), ("first", 5), ("skip", 2), ("first", 9), ("skip", 2))),
    (PLAIN, (("first", 20), ("first", 20), ("skip", 9), ("first", 11), ("skip", 10))),
    (PLAIN, (("sort", "ab"), ("skip", 3), ("columns", "c"), ("first", 2), ("count", "c"))),
    (PLAIN, (("sort", "ab"), ("skip", 1), ("skip", 1), ("sum", "ab", "c"))),
    (PLAIN, (("sort", "ab"), ("first", 3), ("heads", "a"))),
    (PLAIN, (("sort", "ab"), ("first", 3), ("skip", 1), ("heads", "c"))),
    (PLAIN, (("sort", "b"), ("skip", 0), ("heads", "b"))),
    # a filter that names a column that a cut left unknown
    (PLAIN, (("sort", "b"), ("first", 5), ("where", "c", 1), ("skip", 4))),
    (PLAIN, (("sort", "b"), ("skip", 5), ("where", "c", 1), ("skip", 20), ("first", 1))),
    (PLAIN, (("sort", "b"), ("skip", 1), ("where", "c", 1), ("skip", 1), ("where", "a", 1), ("skip", 1))),
    (PLAIN, (("skip", 1), ("where", "c", 1), ("where", "a", 2), ("where", "b", 3), ("skip", 2), ("count", "a"))),
    (PLAIN, (("first", 20), ("where", "c", 1), ("skip", 18), ("where", "a", 1), ("skip", 1), ("sum", "b", "a"))),
    (PLAIN, (("where", "b", 4), ("first", 3), ("where", "a", 1), ("where", "b", 4), ("columns", "b"))),
    (PLAIN, (("sort", "b"), ("first", 2), ("columns", "bc"), ("where", "b", 0), ("where", "c", -7), ("heads", "b"))),
    # the rows that are skipped may not be equal in all that the later filters name
    (KEYED, (("sort", "b"), ("first", 5), ("where", "c", 1), ("where", "b", 2))),
    (KEYED, (("sort", "b"), ("first", 5), ("skip", 2), ("where", "a", 1))),
    (PAIRED, (("sort", "b"), ("first", 5), ("where", "a", 1), ("skip", 4))),
    (PAIRED, (("sort", "b"), ("skip", 5), ("where", "a", 1), ("skip", 4))),
    (PAIRED, (("sort", "b"), ("first", 5), ("where", "a", 1), ("skip", 4), ("where", "b", 3))),
    (PAIRED, (("sort", "b"), ("skip", 5), ("where", "a", 1), ("skip", 4), ("where", "b", 3))),
    (PAIRED, (("skip", 1), ("where", "a", 1), ("skip", 1), ("where", "c", 1), ("skip", 1), ("where", "b", 1))),
    (REACHED, (("sort", "d"), ("first", 4), ("where", "d", 2), ("skip", 1), ("where", "b", 1))),
    (BROAD, (("sort", "b"), ("first", 9), ("where", "d", 2), ("skip", 3), ("where", "e", 1), ("skip", 4))),
    (BROAD, (("sort", "e"), ("skip", 9), ("where", "d", 2), ("skip", 3), ("where", "b", 1), ("skip", 4),
             ("where", "a", 1))),
    (BROAD, (("stable", "c"), ("stable", "b"), ("first", 9), ("where", "a", 2), ("skip", 3), ("where", "d", 1))),
    # 'columns' ahead of and behind a cut
    (PLAIN, (("columns", "ac"), ("sort", "c"), ("first", 3))),
    (PLAIN, (("sort", "b"), ("columns", "ac"), ("stable", "c"), ("first", 3), ("columns", "a"))),
    (PLAIN, (("sort", "c"), ("columns", "b"), ("skip", 3), ("where", "b", 2))),
    # 'stable' behind 'sort', and sorts ahead of the last one
    (PLAIN, (("sort", "a"), ("stable", "b"), ("first", 3))),
    (PLAIN, (("sort", "c"), ("sort", "a"), ("stable", "b"), ("first", 3))),
    (PLAIN, (("stable", "c"), ("sort", "a"), ("stable", "b"), ("sort", "b"), ("first", 3), ("columns", "c"))),
    (PLAIN, (("sort", "abc"), ("sort", "c"), ("first", 1), ("where", "a", 5))),
    # filters by large integers
    (PLAIN, (("where", "b", 10 ** 59), ("sort", "b"), ("first", 2), ("where", "a", -(10 ** 59)))),
    (KEYED, (("where", "b", -3), ("where", "b", -3), ("first", 2), ("where", "c", -3), ("sum", "b", "a"))),
]

# Schema and a report that is settled, though it is near to one of those above.
NEAR = [
    (PLAIN, (("sort", "b"), ("first", 20), ("skip", 20))),
    (PLAIN, (("skip", 7), ("first", 5), ("skip", 2), ("first", 9), ("skip", 3))),
    (PLAIN, (("sort", "ab"), ("skip", 3), ("count", "ab"))),
    (PLAIN, (("sort", "ab"), ("skip", 3), ("columns", "ab"), ("heads", "a"))),
    (PLAIN, (("sort", "b"), ("first", 5), ("where", "c", 1), ("skip", 5))),
    (PLAIN, (("sort", "b"), ("first", 5), ("where", "c", 1), ("where", "c", 2))),
    (PLAIN, (("sort", "b"), ("where", "c", 1), ("where", "c", 2))),
    (PLAIN, (("skip", 20), ("where", "c", 1), ("skip", 20), ("where", "c", 0), ("count", "c"))),
    (PAIRED, (("sort", "b"), ("first", 5), ("where", "a", 1), ("where", "b", 3), ("skip", 1))),
    (PAIRED, (("sort", "b"), ("where", "a", 1), ("first", 3))),
    (REACHED, (("sort", "ad"), ("first", 3))),
    (BROAD, (("sort", "d"), ("where", "e", 1), ("where", "a", 1), ("first", 3))),
    (BROAD, (("sort", "a"), ("stable", "d"), ("first", 3))),
    (BROAD, (("where", "d", 1), ("sort", "a"), ("first", 3), ("where", "e", 1))),
]


class TestIsWitness(unittest.TestCase):
    def test_example(self):
        self.assertIs(is_witness(PLAIN, TOP, (TABLE, SCRIPT, OTHER)), True)

    def test_what_find_witness_returns_and_with_its_scripts_exchanged(self):
        for schema, report in NOT_SETTLED + HARD:
            table, script, other = find_witness(schema, report)
            self.assertIs(is_witness(schema, report, (table, script, other)), True, report)
            self.assertIs(is_witness(schema, report, (table, other, script)), True, report)

    def test_twice_the_same_script(self):
        for schema, report in NOT_SETTLED + HARD:
            table, script, other = find_witness(schema, report)
            self.assertIs(is_witness(schema, report, (table, script, script)), False, report)
            self.assertIs(is_witness(schema, report, (table, other, [list(part) for part in other])), False, report)

    def test_scripts_that_differ_with_equal_outcomes(self):
        table = [(1, 5, 0), (2, 4, 0), (1, 5, 0)]
        self.assertIs(is_witness(PLAIN, TOP, (table, SCRIPT, OTHER)), False)
        self.assertIs(is_witness(PLAIN, TOP, (TABLE[:2], [[0, 1], [1, 0]], [[1, 0], [0, 1]])), False)
        self.assertIs(is_witness(PLAIN, NAMES, (TABLE, SCRIPT, OTHER)), False)
        self.assertIs(is_witness(PLAIN, (("count", "b"),), (TABLE, [[0, 1, 2]], [[2, 1, 0]])), False)

    def test_a_table_that_breaks_a_rule_or_a_key(self):
        right = [(1, 5, 7), (2, 4, 7), (3, 5, 7)]
        self.assertIs(is_witness(KEYED, TOP, (right, SCRIPT, OTHER)), True)
        for table in (
            [(1, 5, 7), (2, 4, 7), (3, 5, 8)],
            [(1, 5, 7), (2, 4, 7), (1, 5, 7)],
            [(1, 5, 7), (3, 4, 7), (3, 5, 7)],
        ):
            self.assertIs(is_witness(KEYED, TOP, (table, SCRIPT, OTHER)), False, table)

    def test_rows_of_another_form(self):
        for row in [(3, 5), (3, 5, 0, 0), [3, 5, 0], (3, True, 0), (3, "5", 0), (3, None, 0), None, 3, ()]:
            self.assertIs(is_witness(PLAIN, TOP, ([*TABLE[:2], row], SCRIPT, OTHER)), False, row)
        self.assertIs(is_witness(PLAIN, TOP, (TABLE[:2], SCRIPT, OTHER)), False)
        self.assertIs(is_witness(PLAIN, TOP, ([*TABLE, (9, 9, 9)], SCRIPT, OTHER)), False)

    def test_a_script_with_an_item_changed(self):
        for at in range(2):
            for place in range(3):
                for item in (-1, 0, 1, 2, 3, True, False, None, "1", [1]):
                    script = [list(part) for part in OTHER]
                    if script[at][place] == item and not isinstance(item, bool):
                        continue
                    script[at][place] = item
                    self.assertIs(is_witness(PLAIN, TOP, (TABLE, SCRIPT, script)), False, script)
                    self.assertIs(is_witness(PLAIN, TOP, (TABLE, script, SCRIPT)), False, script)

    def test_a_list_too_many_or_too_few(self):
        for script in ([], [[]], OTHER[:1], OTHER[1:], OTHER + [[0, 1, 2]], [[], *OTHER], OTHER * 2,
                       [[0, 1], [1, 0]], [[0, 1, 2, 3], [1, 2, 0, 3]], [[0, 1, 2], [1, 2]], [[0, 1, 2], [1, 2, 0, 0]],
                       # Not in ascending order of b.
                       [[0, 1, 2], [0, 1, 2]], [[1, 0, 2], [1, 0, 2]]):
            self.assertIs(is_witness(PLAIN, TOP, (TABLE, SCRIPT, script)), False, script)
            self.assertIs(is_witness(PLAIN, TOP, (TABLE, script, SCRIPT)), False, script)

    def test_a_part_missing_or_one_too_many(self):
        for value in [(), (TABLE,), (TABLE, SCRIPT), (SCRIPT, OTHER), (TABLE, SCRIPT, OTHER, OTHER),
                      (TABLE, SCRIPT, OTHER, None), (TABLE, TABLE, SCRIPT, OTHER), (SCRIPT, OTHER, TABLE),
                      (SCRIPT, TABLE, OTHER), ((TABLE, SCRIPT, OTHER),)]:
            self.assertIs(is_witness(PLAIN, TOP, value), False, value)

    def test_a_part_of_another_kind(self):
        for value in replaced((TABLE, SCRIPT, OTHER)):
            self.assertIs(is_witness(PLAIN, TOP, value), False, value)

    def test_values_of_any_kind(self):
        for at, value in enumerate(odd_values()):
            with self.subTest(at=at):
                for schema, report in ((PLAIN, TOP), (PLAIN, ()), (KEYED, FULL)):
                    self.assertIs(is_witness(schema, report, value), False)
                self.assertIs(is_witness(PLAIN, TOP, (value, SCRIPT, OTHER)), False)
                self.assertIs(is_witness(PLAIN, TOP, (TABLE, value, OTHER)), False)
                self.assertIs(is_witness(PLAIN, TOP, (TABLE, SCRIPT, value)), False)
                self.assertIs(is_witness(PLAIN, TOP, (TABLE, value, value)), False)
                self.assertIs(is_witness(PLAIN, TOP, (value, value, value)), False)
                self.assertIs(is_witness(PLAIN, TOP, [TABLE, SCRIPT, value]), False)

    def test_a_settled_report_has_none(self):
        table = [(1, 5, 7), (2, 4, 7), (3, 5, 7)]
        self.assertIs(is_witness(KEYED, FULL, (table, SCRIPT, SCRIPT)), False)
        self.assertIs(is_witness(KEYED, FULL, (table, SCRIPT, [[2, 1, 0], [1, 2, 0]])), False)
        self.assertIs(is_witness(KEYED, NAMES, (table, SCRIPT, OTHER)), False)


class TestFindWitness(unittest.TestCase):
    def check(self, schema, report):
        """find_witness returns None exactly if the report is settled, otherwise a witness."""
        found = find_witness(schema, report)
        self.assertIs(found is None, is_settled(schema, report), (schema, report))
        if found is None:
            return
        self.assertIs(type(found), tuple)
        self.assertIs(is_witness(schema, report, found), True, (schema, report, found))
        table, script, other = found
        self.assertIs(is_table(schema, table), True, (schema, report))
        self.assertNotEqual(run(schema, report, table, script), run(schema, report, table, other), (schema, report))

    def test_example(self):
        self.assertIsNone(find_witness(KEYED, FULL))

    def test_settled_reports(self):
        for schema, report in SETTLED + NEAR:
            self.assertIs(is_settled(schema, report), True, (schema, report))
            self.assertIsNone(find_witness(schema, report), (schema, report))

    def test_reports_that_are_not_settled(self):
        for schema, report in NOT_SETTLED + HARD:
            self.assertTrue(is_schema(schema) and is_report(schema, report), (schema, report))
            self.assertIs(is_settled(schema, report), False, (schema, report))
            self.check(schema, report)

    def test_many_reports(self):
        kinds = {}
        for schema, report in pairs(12, 3000):
            self.assertTrue(is_schema(schema) and is_report(schema, report), (schema, report))
            self.check(schema, report)
            last = derive(schema, report)[-1]
            kind = "settled" if is_settled(schema, report) else "counted" if last[3] else "not counted"
            kinds[kind] = kinds.get(kind, 0) + 1
        # The reports are not all of one kind.
        self.assertGreater(min(kinds.get(kind, 0) for kind in ("settled", "counted", "not counted")), 100, kinds)

    def test_short_reports_without_a_witness_have_one_outcome(self):
        tables = [[(0, 0, 0), (0, 0, 1), (0, 1, 0)], [(1, 0, 0), (0, 0, 1), (0, 1, 1)], [(1, 0, 0), (2, 1, 0)]]
        for schema in (PLAIN, KEYED, PAIRED):
            for report in reports(13, schema, 400, most=4, counts=(0, 1, 1, 2)):
                if find_witness(schema, report) is None:
                    for table in tables:
                        if is_table(schema, table):
                            self.assertEqual(len(all_outcomes(schema, report, table)), 1, (schema, report, table))

    def test_a_knowledge_that_is_empty_at_the_end(self):
        for schema, report in pairs(14, 1000):
            if derive(schema, report)[-1] == EMPTY:
                self.assertIsNone(find_witness(schema, report), (schema, report))
