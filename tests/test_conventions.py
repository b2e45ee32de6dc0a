"""Point [2]: arguments stay as they are, results are new and equal for equal arguments."""

import copy
import unittest

from openties.choosers import play
from openties.derivations import find_derivation, is_derivation, is_weaker
from openties.errors import InvalidScript, NoRun
from openties.keys import are_equivalent, find_table, minimal_keys
from openties.knowledge import derive, is_knowledge, is_settled, knowledge_after, start_knowledge
from openties.mends import find_mend, is_mend, mended
from openties.outcomes import find_difference, outcomes, script_for
from openties.pages import find_loss, is_lossless, joined, page
from openties.reports import is_report, kept_columns
from openties.runs import first_script, run
from openties.schemas import alike_table, closure, is_schema, is_table
from openties.witnesses import find_witness, is_witness
from samples import FULL, KEYED, NAMES, PLAIN, TOP

THREE = [(1, 5, 0), (2, 4, 0), (3, 5, 0)]
START = ((), "", "abc", True, None)
ORDERED = ((), "ba", "abc", True, None)
BOUNDED = ((), "ba", "abc", True, 2)
EACH_STEP = (("where", "c", 0), ("sort", "b"), ("stable", "c"), ("sort", "ba"), ("first", 2), ("skip", 1),
             ("columns", "bc"))

CALLS = [
    (is_schema, (KEYED,), True),
    (is_schema, (["abc", [["b", "c"]], {"a": [1]}],), False),
    (is_schema, (("abc", [("b", "c")], ["a"]),), False),
    (closure, (KEYED, "b"), "bc"),
    (is_table, (KEYED, [(1, 5, 7), (2, 5, 7)]), True),
    (is_table, (KEYED, [(2, 5, 7), (1, 5, 8)]), False),
    (is_table, (KEYED, [(2, 5, 7), [1, 5, 8], {"a": [3]}]), False),
    (alike_table, (KEYED, "b", 0), []),
    (is_report, (PLAIN, TOP), True),
    (is_report, (PLAIN, [["sort", "b"], {"first": [2]}]), False),
    (is_report, (PLAIN, (("sort", "b"), ["first", [2]])), False),
    (kept_columns, (KEYED, NAMES), "bc"),
    (kept_columns, (KEYED, FULL), "abc"),
    (run, (PLAIN, TOP, THREE, [[0, 1, 2], [1, 2, 0]]), [(2, 4, 0), (3, 5, 0)]),
    (run, (PLAIN, (), THREE, [[2, 0, 1]]), [(3, 5, 0), (1, 5, 0), (2, 4, 0)]),
    (run, (PLAIN, EACH_STEP, THREE, [[0, 1, 2], [1, 2, 0], [0, 2, 1]]), [(5, 0)]),
    (run, (PLAIN, (("sort", "b"), ("count", "b")), THREE, [[2, 1, 0], [1, 0, 2]]), [(4, 1), (5, 2)]),
    (run, (PLAIN, (("sort", "b"), ("sum", "b", "a")), THREE, [[2, 1, 0], [1, 0, 2]]), [(4, 2), (5, 4)]),
    (run, (PLAIN, (("sort", "b"), ("heads", "b")), THREE, [[2, 1, 0], [1, 0, 2]]), [(2, 4, 0), (3, 5, 0)]),
    (first_script, (PLAIN, (), THREE), [[0, 1, 2]]),
    (first_script, (PLAIN, EACH_STEP, THREE), [[0, 1, 2], [1, 0, 2], [0, 1, 2]]),
    (first_script, (PLAIN, (("sort", "b"), ("heads", "b")), THREE), [[0, 1, 2], [1, 0, 2]]),
    (is_knowledge, (KEYED, BOUNDED), True),
    (is_knowledge, (KEYED, [[], "ba", ["abc"], True, {"a": [2]}]), False),
    (is_knowledge, (KEYED, ([("a", 1)], "ba", "abc", True, 2)), False),
    (start_knowledge, (KEYED,), START),
    (knowledge_after, (KEYED, START, ("sort", "ba")), ORDERED),
    (knowledge_after, (KEYED, ORDERED, ("first", 2)), BOUNDED),
    (knowledge_after, (KEYED, START, ("where", "a", 1)), ((("a", 1),), "", "abc", True, 1)),
    (derive, (KEYED, FULL), [START, ORDERED, BOUNDED]),
    (is_settled, (KEYED, FULL), True),
    (is_settled, (PLAIN, FULL), False),
    (is_weaker, (START, ORDERED), True),
    (is_weaker, (BOUNDED, START), False),
    (is_derivation, (KEYED, FULL, [START, ORDERED, BOUNDED]), True),
    (is_derivation, (KEYED, FULL, [START, list(ORDERED), [BOUNDED]]), False),
    (is_derivation, (KEYED, FULL, (START, [ORDERED], {"a": [BOUNDED]})), False),
    (find_derivation, (KEYED, FULL), [START, ORDERED, BOUNDED]),
    (find_derivation, (PLAIN, FULL), None),
    (is_witness, (PLAIN, TOP, (THREE, [[0, 1, 2], [1, 0, 2]], [[0, 1, 2], [1, 2, 0]])), True),
    (is_witness, (PLAIN, TOP, ([[1, 5, 0]], [[0]], {"a": [[0]]})), False),
    (is_witness, (PLAIN, TOP, [THREE, [[0, 1, 2], [1, 0, 2]], [[0, 1, 2], [1, 2, 0]]]), False),
    (find_witness, (KEYED, FULL), None),
    (is_mend, (PLAIN, TOP, ("ac",)), True),
    (is_mend, (PLAIN, TOP, (["a"], {"a": ["c"]})), False),
    (mended, (TOP, ("a",)), FULL),
    (find_mend, (PLAIN, TOP), ("ac",)),
    (page, (THREE, 2, 0), THREE[:2]),
    (page, (THREE, 3, 0), THREE),
    (page, (THREE, 3, 1), []),
    (joined, (PLAIN, (), 2, THREE, [[[0, 1, 2]], [[2, 1, 0]]]), [(1, 5, 0), (2, 4, 0), (1, 5, 0)]),
    (joined, (PLAIN, (), 20, THREE, [[[0, 1, 2]]]), THREE),
    (is_lossless, (PLAIN, TOP, 1), False),
    (find_loss, (PLAIN, TOP, 2), None),
    (outcomes, (PLAIN, TOP, THREE), [[(2, 4, 0), (1, 5, 0)], [(2, 4, 0), (3, 5, 0)]]),
    (outcomes, (PLAIN, (), THREE[:1]), [THREE[:1]]),
    (find_difference, (PLAIN, NAMES, THREE), None),
    (script_for, (PLAIN, (), THREE, [THREE[1], THREE[2], THREE[0]]), [[1, 2, 0]]),
    (play, (PLAIN, TOP, THREE, len), ([(2, 4, 0), (1, 5, 0)], [[0, 1, 2], [1, 0, 2]])),
    (minimal_keys, (KEYED,), ["a"]),
    (minimal_keys, (("abc", (("a", "b"),), ("bc", "c")),), ["c"]),
    (are_equivalent, (KEYED, PLAIN), False),
    (find_table, (KEYED, PLAIN), None),
]

# Calls that return any valid value, which holds lists.
CHOOSING = [
    (find_witness, (PLAIN, ())),
    (find_witness, (PLAIN, TOP)),
    (find_witness, (KEYED, (("stable", "b"), ("first", 3), ("where", "c", 2), ("skip", 2)))),
    (find_loss, (PLAIN, (), 1)),
    (find_loss, (PLAIN, TOP, 1)),
    (find_loss, (KEYED, (("sort", "b"), ("sort", "c"), ("skip", 2)), 5)),
    (outcomes, (PLAIN, (("sort", "b"),), THREE)),
    (find_difference, (PLAIN, (), THREE)),
    (find_difference, (PLAIN, TOP, THREE)),
    (script_for, (PLAIN, TOP, THREE, [(2, 4, 0), (3, 5, 0)])),
    (play, (PLAIN, (("sort", "b"), ("sort", "b")), THREE, len)),
    (find_table, (PLAIN, KEYED)),
]

# Calls that return lists.
LISTS = [call for call in CALLS if isinstance(call[2], list)]


def lists_within(value):
    """All lists within a value of lists and tuples, each as often as it stands there."""
    found = [value] if isinstance(value, list) else []
    return found + [part for item in value if isinstance(item, (list, tuple)) for part in lists_within(item)]


class TestConventions(unittest.TestCase):
    def test_arguments_are_unchanged(self):
        for function, arguments, expected in CALLS:
            with self.subTest(function=function.__name__, arguments=arguments):
                before = copy.deepcopy(arguments)
                self.assertEqual(function(*arguments), expected)
                self.assertEqual(arguments, before)

    def test_equal_arguments_have_equal_results(self):
        for function, arguments, expected in CALLS:
            with self.subTest(function=function.__name__, arguments=arguments):
                self.assertEqual(function(*copy.deepcopy(arguments)), expected)
                self.assertEqual(function(*arguments), function(*arguments))
        self.assertEqual(alike_table(KEYED, "b", 30), alike_table(KEYED, "b", 30))

    def test_chosen_values_are_equal_and_new(self):
        for function, arguments in CHOOSING:
            with self.subTest(function=function.__name__, arguments=arguments):
                first = function(*copy.deepcopy(arguments))
                kept = copy.deepcopy(first)
                second = function(*arguments)
                self.assertEqual(second, kept)
                found = lists_within(first) + lists_within(second)
                # No list stands in two places, so a change of one changes no other.
                self.assertEqual(len({id(part) for part in found}), len(found))
                for part in found:
                    part.append("changed")
                    part[0] = None
                self.assertEqual(function(*arguments), kept)

    def test_a_changed_argument_has_a_result_of_its_own(self):
        table = [(1, 5, 7), (2, 5, 7)]
        self.assertIs(is_table(KEYED, table), True)
        table.append((1, 5, 7))
        self.assertIs(is_table(KEYED, table), False)
        table.pop()
        self.assertIs(is_table(KEYED, table), True)

    def test_arguments_are_unchanged_by_a_call_that_raises_an_error(self):
        for script in ([[0, 1, 2], [0, 1, 2]], [[2, 1, 0], [1, 0, True]], [[0, [1], 2], (1, 0, 2)], {"a": [[0]]}):
            arguments = (PLAIN, TOP, list(THREE), script)
            before = copy.deepcopy(arguments)
            self.assertRaises(InvalidScript, run, *arguments)
            self.assertEqual(arguments, before)

    def test_an_outcome_of_any_value_is_unchanged(self):
        for outcome in ([[2, 4, 0], [1, 5, 0]], [(2, 4, False), (1, 5, 0)], {"a": [[2]]}, ([(2, 4, 0)], [1]), []):
            arguments = (PLAIN, TOP, list(THREE), outcome)
            before = copy.deepcopy(arguments)
            self.assertRaises(NoRun, script_for, *arguments)
            self.assertEqual(arguments, before)

    def test_a_changed_script_or_table_has_a_result_of_its_own(self):
        table, script = list(THREE), [[0, 1, 2], [1, 0, 2]]
        outcome = run(PLAIN, TOP, table, script)
        script[1][1:] = [2, 0]
        self.assertEqual(run(PLAIN, TOP, table, script), [(2, 4, 0), (3, 5, 0)])
        table[1] = (7, 3, 0)
        self.assertEqual(run(PLAIN, TOP, table, script), [(7, 3, 0), (3, 5, 0)])
        self.assertEqual(first_script(PLAIN, (("sort", "ab"),), table), [[0, 1, 2], [0, 2, 1]])
        self.assertEqual(outcome, [(2, 4, 0), (1, 5, 0)])

    def test_each_returned_list_is_new(self):
        for function, arguments, expected in LISTS:
            with self.subTest(function=function.__name__, arguments=arguments):
                first = function(*arguments)
                for argument in arguments:
                    self.assertIsNot(first, argument)
                for part in first:
                    if isinstance(part, list):
                        part.append("changed")
                first.append("changed")
                first[0] = None
                self.assertEqual(function(*arguments), expected)
        script = first_script(PLAIN, (("sort", "b"), ("sort", "c")), [(1, 1, 1)] * 2)
        script[1].reverse()
        self.assertEqual(script, [[0, 1], [1, 0], [0, 1]])

    def test_a_returned_list_may_be_changed(self):
        for count in (0, 1, 2, 30):
            table = alike_table(PLAIN, "a", count)
            kept = list(table)
            table.append("changed")
            table[0] = None
            self.assertEqual(alike_table(PLAIN, "a", count), kept)
            self.assertIsNot(alike_table(PLAIN, "a", count), alike_table(PLAIN, "a", count))

    def test_what_a_call_returned_is_a_value_too(self):
        table = alike_table(PLAIN, "b", 30)
        self.assertIs(is_table(PLAIN, table), True)
        self.assertIs(is_table(PLAIN, table * 100), True)
        self.assertIs(is_table(PLAIN, table[::-1]), True)
        self.assertIs(is_table(PLAIN, [table]), False)
        self.assertIs(is_table(PLAIN, tuple(table)), False)
        self.assertIs(is_schema((closure(KEYED, "b"), (), ())), True)
        self.assertIs(is_schema(tuple(table[:3])), False)
        self.assertIs(is_report(PLAIN, tuple(table[:3])), False)
        self.assertIs(is_knowledge(PLAIN, tuple(table[:5])), False)
        self.assertIs(is_derivation(PLAIN, (), [tuple(table[:5])]), False)
        self.assertRaises(InvalidScript, run, PLAIN, (), table, table)
