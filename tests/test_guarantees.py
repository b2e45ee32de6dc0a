"""Point [3]: derivations and witnesses, mends and pages, over all small reports."""

import unittest
from itertools import combinations_with_replacement, product

from openties.derivations import find_derivation, is_derivation
from openties.knowledge import is_settled
from openties.mends import find_mend, mended
from openties.outcomes import find_difference, outcomes
from openties.pages import find_loss, is_lossless
from openties.reports import is_report
from openties.runs import first_script, run
from openties.schemas import is_table
from openties.witnesses import find_witness, is_witness
from plain import all_joined, all_outcomes, all_runs
from samples import FULL, KEYED, NAMES, PLAIN, TOP
from test_mends import all_mends
from test_pages import has_pages

STEPS = [
    ("where", "a", 0), ("where", "a", 1), ("where", "b", 0),
    ("sort", "a"), ("sort", "b"), ("sort", "ba"), ("stable", "a"), ("stable", "b"), ("stable", "ab"),
    ("first", 0), ("first", 1), ("first", 2), ("skip", 0), ("skip", 1),
    ("columns", "a"), ("columns", "b"), ("count", "a"), ("count", "ab"), ("sum", "a", "b"), ("sum", "b", "a"),
    ("heads", "a"), ("heads", "ab"),
]

SCHEMAS = [
    ("ab", (), ()),
    ("ab", (("a", "b"),), ()),
    ("ab", (), ("b",)),
    ("ab", (("", "b"),), ("a",)),
    ("ab", (), ("ab",)),
    ("ab", (("", "a"),), ("a",)),
]

LONG_REPORTS = [
    TOP,
    FULL,
    NAMES,
    (("where", "b", 1), ("sort", "c"), ("stable", "b"), ("first", 2), ("columns", "ac")),
    (("where", "b", 1), ("sort", "c"), ("stable", "b"), ("first", 2), ("columns", "bc")),
    (("where", "b", 1), ("sort", "c"), ("stable", "a"), ("skip", 1), ("sum", "c", "a")),
    (("stable", "b"), ("stable", "c"), ("stable", "a"), ("first", 2), ("skip", 1)),
    (("stable", "b"), ("sort", "a"), ("first", 2), ("count", "ab")),
    (("sort", "b"), ("first", 2), ("where", "b", 1), ("columns", "b"), ("count", "b")),
    (("sort", "b"), ("first", 2), ("where", "c", 1), ("columns", "c")),
    (("sort", "b"), ("first", 2), ("columns", "bc"), ("heads", "b")),
    (("sort", "b"), ("first", 2), ("sum", "b", "c")),
    (("columns", "bc"), ("sort", "b"), ("skip", 1), ("heads", "c")),
    (("sort", "ca"), ("heads", "b")),
    (("sort", "c"), ("heads", "ab")),
    (("columns", "ac"), ("sort", "c"), ("heads", "a")),
    (("where", "a", 1), ("first", 1), ("columns", "c")),
    (("where", "a", 1), ("skip", 1), ("columns", "c")),
]


def tables_of(schema, values, most):
    rows = list(product(values, repeat=len(schema[0])))
    tables = [list(table) for many in range(most + 1) for table in combinations_with_replacement(rows, many)]
    return [table for table in tables if is_table(schema, table)]


class TestGuarantees(unittest.TestCase):
    def check(self, schema, report, tables, more):
        """A derivation and a table with two outcomes: just one of them exists."""
        found = find_derivation(schema, report)
        witness = find_witness(schema, report)
        self.assertIs(is_settled(schema, report), found is not None)
        self.assertIs(witness is None, found is not None, (schema, report))
        if found is None:
            self.assertIs(is_witness(schema, report, witness), True, (schema, report, witness))
            several = any(len(all_outcomes(schema, report, table)) > 1 for table in reversed(more))
            self.assertTrue(several, (schema, report))
            return
        self.assertIs(is_derivation(schema, report, found), True)
        for table in tables:
            self.assertEqual(len(all_outcomes(schema, report, table)), 1, (schema, report, table))

    def test_short_reports(self):
        for schema in SCHEMAS:
            tables, more = tables_of(schema, (0, 1), 3), tables_of(schema, (0, 1, 2), 3)
            for many in range(3):
                for report in product(STEPS, repeat=many):
                    if is_report(schema, report):
                        self.check(schema, report, tables, more)

    def test_longer_reports(self):
        for schema in (PLAIN, KEYED, ("abc", (("c", "a"),), ()), ("abc", (), ("bc",))):
            tables, more = tables_of(schema, (0, 1), 3), tables_of(schema, (0, 1, 2), 3)
            for report in LONG_REPORTS:
                self.check(schema, report, tables, more)

    def test_mended_reports(self):
        for schema in SCHEMAS:
            for report in product(STEPS, repeat=2):
                if is_report(schema, report):
                    self.check_mend(schema, report)
        for schema in (PLAIN, KEYED, ("abc", (("c", "a"),), ()), ("abc", (), ("bc",))):
            for report in LONG_REPORTS:
                self.check_mend(schema, report)

    def check_mend(self, schema, report):
        """A mended report is settled, and no mend with fewer columns settles it."""
        mends = all_mends(schema, report)
        right = [mend for mend in mends if find_witness(schema, mended(report, mend)) is None]
        found = find_mend(schema, report)
        self.assertIs(found is None, right == [], (schema, report))
        if found is not None:
            self.assertIn(found, right)
            self.assertEqual(len("".join(found)), min(len("".join(mend)) for mend in right), (schema, report))
            self.assertIs(is_settled(schema, mended(report, found)), True, (schema, report))

    def test_pages(self):
        """All joined pages are outcomes of each table if and only if the library says so."""
        for schema in SCHEMAS:
            tables = tables_of(schema, (0, 1), 3)
            for report in [*product(STEPS, repeat=1), *product(STEPS, repeat=2)]:
                if not is_report(schema, report) or not has_pages(schema, report):
                    continue
                for n in (1, 2):
                    lossless = is_lossless(schema, report, n)
                    self.assertIs(find_loss(schema, report, n) is None, lossless, (schema, report, n))
                    for table in tables if lossless else []:
                        outcomes = all_outcomes(schema, report, table)
                        self.assertLessEqual(all_joined(outcomes, n), outcomes, (schema, report, n, table))

    def test_outcomes(self):
        """The outcomes for a table are all that any runs have; a settled report has one for each table."""
        for schema in SCHEMAS:
            tables = tables_of(schema, (0, 1), 3)
            for report in [*product(STEPS, repeat=1), *product(STEPS, repeat=2)]:
                if is_report(schema, report):
                    for table in tables[::3]:
                        found = outcomes(schema, report, table)
                        right = sorted(list(rows) for rows in all_outcomes(schema, report, table))
                        self.assertEqual(found, right, (schema, report, table))
                        self.assertIs(find_difference(schema, report, table) is None, len(right) == 1)
                        self.assertTrue(len(found) == 1 or not is_settled(schema, report), (schema, report, table))

    def test_a_witness_has_several_outcomes(self):
        for schema in SCHEMAS:
            for report in product(STEPS, repeat=2):
                witness = find_witness(schema, report) if is_report(schema, report) else None
                if witness is not None and len(witness[0]) <= 5:
                    self.assertGreater(len(outcomes(schema, report, witness[0])), 1, (schema, report))

    def test_run_has_just_these_outcomes(self):
        for schema in (PLAIN, KEYED):
            for report in LONG_REPORTS:
                for table in ([(0, 1, 1), (1, 0, 1), (2, 1, 1)], [(2, 1, 0), (1, 1, 0)], []):
                    outcomes = {tuple(run(schema, report, table, script))
                                for script, _ in all_runs(schema, report, table)}
                    self.assertEqual(outcomes, all_outcomes(schema, report, table))
                    if find_derivation(schema, report) is not None:
                        only = run(schema, report, table, first_script(schema, report, table))
                        self.assertEqual(outcomes, {tuple(only)})
