"""Point [6]: reports and the columns that they keep."""

import unittest

from openties.reports import is_report, kept_columns
from samples import FULL, KEYED, NAMES, PLAIN, TOP, odd_values, replaced, subsets

# Two of the odd values are right as parts of a report.
STEP_AT = odd_values().index(("sort", "a"))
KIND_AT = odd_values().index("sort")

MIXED = (("where", "a", -3), ("stable", "ca"), ("sort", "b"), ("columns", "bc"), ("skip", 1), ("first", 2),
         ("columns", "b"), ("where", "b", 0))

RIGHT_REPORTS = [
    (),
    TOP,
    FULL,
    NAMES,
    MIXED,
    (("where", "c", 10 ** 60),),
    (("where", "a", 1), ("where", "a", 2)),
    (("sort", "cab"),),
    (("stable", "b"), ("stable", "bc")),
    (("first", 0),),
    (("first", 20), ("skip", 20)),
    (("skip", 0), ("where", "a", 0), ("first", 3)),
    (("columns", "abc"), ("columns", "ac"), ("columns", "c")),
    (("columns", "bc"), ("sort", "cb"), ("count", "b")),
    (("count", "abc"),),
    (("first", 2), ("count", "a")),
    (("sum", "ab", "c"),),
    (("sum", "c", "a"),),
    (("heads", "b"),),
    (("sort", "a"), ("heads", "abc")),
    (("columns", "bc"), ("sum", "b", "c")),
    (("sort", "a"),) * 8,
    (("sort", "a"),) * 7 + (("count", "a"),),
]

WRONG_REPORTS = [
    # the steps as a whole
    ("sort", "b"),
    (("sort", "b"), ()),
    (("sort", "b"), "first"),
    ((("sort", "b"),),),
    (("sort", "a"),) * 9,
    (("sort", "a"),) * 8 + (("count", "a"),),
    (("first", 1),) * 20,
    # the kind of a step, and how many parts it has
    (("", "a"),),
    (("Sort", "a"),),
    (("group", "a"),),
    (("a", "a"),),
    (("sort",),),
    (("first",),),
    (("columns",),),
    (("where", "a"),),
    (("where", 1),),
    (("where", "a", 1, 1),),
    (("sort", "a", "b"),),
    (("stable", "a", 1),),
    (("first", 1, 1),),
    (("skip", 1, 1),),
    (("columns", "a", "b"),),
    (("count", "a", "b"),),
    (("heads", "a", "b"),),
    (("sum", "a"),),
    (("sum", "a", "b", "c"),),
    (("where", 1, "a"),),
    # columns
    (("where", "", 1),),
    (("where", "d", 1),),
    (("where", "ab", 1),),
    (("sort", ""),),
    (("sort", "aa"),),
    (("sort", "aba"),),
    (("sort", "d"),),
    (("sort", "ad"),),
    (("sort", "a b"),),
    (("stable", ""),),
    (("stable", "bb"),),
    (("stable", "da"),),
    (("columns", ""),),
    (("columns", "ba"),),
    (("columns", "aa"),),
    (("columns", "d"),),
    (("columns", "abcd"),),
    (("count", ""),),
    (("count", "ba"),),
    (("count", "ad"),),
    (("heads", ""),),
    (("heads", "ca"),),
    (("heads", "d"),),
    (("sum", "", "a"),),
    (("sum", "ba", "c"),),
    (("sum", "a", "a"),),
    (("sum", "ab", "b"),),
    (("sum", "a", "bc"),),
    (("sum", "a", ""),),
    (("sum", "a", "d"),),
    (("sum", "d", "a"),),
    # numbers
    (("first", -1),),
    (("first", 21),),
    (("first", 10 ** 60),),
    (("skip", -1),),
    (("skip", 21),),
    (("first", True),),
    (("skip", False),),
    (("where", "a", True),),
    (("where", "a", None),),
    (("where", "a", "1"),),
    # columns that are not kept
    (("columns", "a"), ("where", "b", 1)),
    (("columns", "a"), ("sort", "b")),
    (("columns", "ac"), ("sort", "ab")),
    (("columns", "a"), ("stable", "b")),
    (("columns", "a"), ("columns", "b")),
    (("columns", "a"), ("columns", "ab")),
    (("columns", "a"), ("columns", "a"), ("columns", "abc")),
    (("columns", "a"), ("first", 1), ("count", "b")),
    (("columns", "a"), ("count", "ab")),
    (("columns", "a"), ("heads", "b")),
    (("columns", "ab"), ("sum", "a", "c")),
    (("columns", "ab"), ("sum", "c", "a")),
    # the order of the steps
    (("first", 2), ("sort", "b")),
    (("first", 2), ("stable", "b")),
    (("skip", 2), ("sort", "b")),
    (("skip", 0), ("stable", "b")),
    (("sort", "a"), ("first", 2), ("where", "a", 1), ("columns", "a"), ("sort", "a")),
    (("skip", 1), ("first", 2), ("stable", "a")),
    (("count", "a"), ("first", 1)),
    (("sum", "a", "b"), ("sort", "a")),
    (("heads", "a"), ("where", "a", 1)),
    (("heads", "a"), ("columns", "a")),
    (("count", "a"), ("count", "a")),
    (("heads", "a"), ("sum", "a", "b")),
]


class TestIsReport(unittest.TestCase):
    def test_examples(self):
        self.assertIs(is_report(PLAIN, TOP), True)
        self.assertIs(is_report(PLAIN, (("columns", "a"), ("sort", "b"))), False)

    def test_right_reports(self):
        for schema in (PLAIN, KEYED):
            for report in RIGHT_REPORTS:
                self.assertIs(is_report(schema, report), True, report)

    def test_wrong_reports(self):
        for schema in (PLAIN, KEYED):
            for report in WRONG_REPORTS:
                self.assertIs(is_report(schema, report), False, report)

    def test_all_numbers(self):
        for kind in ("first", "skip"):
            found = [number for number in range(-30, 60) if is_report(PLAIN, ((kind, number),))]
            self.assertEqual(found, list(range(21)), kind)

    def test_all_column_sets_of_another_schema(self):
        schema = ("bxz", (), ())
        for kind in ("columns", "count", "heads"):
            found = [columns for columns in subsets("abxyz") if is_report(schema, ((kind, columns),))]
            self.assertEqual(found, ["b", "x", "z", "bx", "bz", "xz", "bxz"], kind)

    def test_a_part_of_another_kind(self):
        for report in RIGHT_REPORTS[:-2]:
            for value in replaced(report):
                self.assertIs(is_report(PLAIN, value), False, value)

    def test_values_of_any_kind(self):
        for at, value in enumerate(odd_values()):
            with self.subTest(at=at):
                self.assertIs(is_report(PLAIN, value), False)
                self.assertIs(is_report(PLAIN, (value,)), at == STEP_AT)
                self.assertIs(is_report(PLAIN, ((value, "a"),)), at == KIND_AT)
                self.assertIs(is_report(PLAIN, (("columns", "a"), ("sum", value, "b"))), False)

    def test_values_of_any_kind_as_a_part(self):
        for at, value in enumerate(odd_values()):
            with self.subTest(at=at):
                right = isinstance(value, int) and not isinstance(value, bool)
                self.assertIs(is_report(PLAIN, (("where", "a", value),)), right)
                right = isinstance(value, str) and value in ("a", "abc")
                self.assertIs(is_report(PLAIN, (("sort", value),)), right)
                self.assertIs(is_report(PLAIN, (("heads", value),)), right)


class TestKeptColumns(unittest.TestCase):
    def test_example(self):
        self.assertEqual(kept_columns(PLAIN, NAMES), "bc")

    def test_without_columns_steps(self):
        for report in ((), TOP, FULL, (("where", "a", 1), ("skip", 2))):
            self.assertEqual(kept_columns(KEYED, report), "abc", report)
        self.assertEqual(kept_columns(("z", (), ()), ()), "z")

    def test_with_columns_steps(self):
        self.assertEqual(kept_columns(PLAIN, MIXED), "b")
        self.assertEqual(kept_columns(PLAIN, (("columns", "abc"),)), "abc")
        self.assertEqual(kept_columns(PLAIN, (("columns", "ac"), ("columns", "c"))), "c")
        self.assertEqual(kept_columns(PLAIN, (("columns", "ac"), ("first", 1))), "ac")

    def test_a_last_step_that_groups(self):
        for last in (("count", "b"), ("sum", "b", "c"), ("heads", "c")):
            self.assertEqual(kept_columns(PLAIN, (last,)), "abc", last)
            self.assertEqual(kept_columns(PLAIN, (("columns", "bc"), last)), "bc", last)
