"""Point [2]: arguments stay as they are, results are new and equal for equal arguments."""

import copy
import unittest

from openties.reports import is_report, kept_columns
from openties.schemas import alike_table, closure, is_schema, is_table
from samples import FULL, KEYED, NAMES, PLAIN, TOP

CALLS = [
    (is_schema, (KEYED,), True),
    (is_schema, (["abc", [["b", "c"]], {"a": [1]}],), False),
    (is_schema, (("abc", [("b", "c")], ["a"]),), False),
    (closure, (KEYED, "b"), "bc"),
    (is_table, (KEYED, [(1, 5, 7), (2, 5, 7)]), True),
    (is_table, (KEYED, [(2, 5, 7), (1, 5, 8)]), False),
    (is_table, (KEYED, [(2, 5, 7), [1, 5, 8], {"a": [3]}]), False),
    (alike_table, (KEYED, "b", 0), []),
    (is_report, (PLAIN, TOP), True),
    (is_report, (PLAIN, [["sort", "b"], {"first": [2]}]), False),
    (is_report, (PLAIN, (("sort", "b"), ["first", [2]])), False),
    (kept_columns, (KEYED, NAMES), "bc"),
    (kept_columns, (KEYED, FULL), "abc"),
]


class TestConventions(unittest.TestCase):
    def test_arguments_are_unchanged(self):
        for function, arguments, expected in CALLS:
            with self.subTest(function=function.__name__, arguments=arguments):
                before = copy.deepcopy(arguments)
                self.assertEqual(function(*arguments), expected)
                self.assertEqual(arguments, before)

    def test_equal_arguments_have_equal_results(self):
        for function, arguments, expected in CALLS:
            with self.subTest(function=function.__name__, arguments=arguments):
                self.assertEqual(function(*copy.deepcopy(arguments)), expected)
                self.assertEqual(function(*arguments), function(*arguments))
        self.assertEqual(alike_table(KEYED, "b", 30), alike_table(KEYED, "b", 30))

    def test_a_changed_argument_has_a_result_of_its_own(self):
        table = [(1, 5, 7), (2, 5, 7)]
        self.assertIs(is_table(KEYED, table), True)
        table.append((1, 5, 7))
        self.assertIs(is_table(KEYED, table), False)
        table.pop()
        self.assertIs(is_table(KEYED, table), True)

    def test_a_returned_list_may_be_changed(self):
        for count in (0, 1, 2, 30):
            table = alike_table(PLAIN, "a", count)
            kept = list(table)
            table.append("changed")
            table[0] = None
            self.assertEqual(alike_table(PLAIN, "a", count), kept)
            self.assertIsNot(alike_table(PLAIN, "a", count), alike_table(PLAIN, "a", count))

    def test_what_a_call_returned_is_a_value_too(self):
        table = alike_table(PLAIN, "b", 30)
        self.assertIs(is_table(PLAIN, table), True)
        self.assertIs(is_table(PLAIN, table * 100), True)
        self.assertIs(is_table(PLAIN, table[::-1]), True)
        self.assertIs(is_table(PLAIN, [table]), False)
        self.assertIs(is_table(PLAIN, tuple(table)), False)
        self.assertIs(is_schema((closure(KEYED, "b"), (), ())), True)
        self.assertIs(is_schema(tuple(table[:3])), False)
        self.assertIs(is_report(PLAIN, tuple(table[:3])), False)
