"""Point [11]: weaker knowledges and derivations."""

import unittest
from itertools import product

from openties.derivations import find_derivation, is_derivation, is_weaker
from openties.knowledge import derive, is_settled
from samples import FULL, KEYED, NAMES, PLAIN, TOP, odd_values, replaced
from test_knowledge import EMPTY, NOT_SETTLED, SETTLED, small_knowledges

# A knowledge, and one that is weaker than it or equal to it.
WEAKER = [
    (((("a", 1), ("b", 2)), "ca", "abc", True, 3), ((("a", 1), ("b", 2)), "ca", "abc", True, 3)),
    (((("a", 1), ("b", 2)), "ca", "abc", True, 3), ((("a", 1),), "ca", "abc", True, 3)),
    (((("a", 1), ("b", 2)), "ca", "abc", True, 3), ((("b", 2),), "ca", "abc", True, 3)),
    (((("a", 1), ("b", 2)), "ca", "abc", True, 3), ((), "ca", "abc", True, 3)),
    (((("a", 1), ("b", 2)), "ca", "abc", True, 3), ((("a", 1), ("b", 2)), "c", "abc", True, 3)),
    (((("a", 1), ("b", 2)), "ca", "abc", True, 3), ((("a", 1), ("b", 2)), "", "abc", True, 3)),
    (((("a", 1), ("b", 2)), "ca", "abc", True, 3), ((("a", 1), ("b", 2)), "ca", "ac", True, 3)),
    (((("a", 1), ("b", 2)), "ca", "abc", True, 3), ((("a", 1), ("b", 2)), "ca", "", True, 3)),
    (((("a", 1), ("b", 2)), "ca", "abc", True, 3), ((("a", 1), ("b", 2)), "ca", "abc", False, 3)),
    (((("a", 1), ("b", 2)), "ca", "abc", True, 3), ((("a", 1), ("b", 2)), "ca", "abc", True, 4)),
    (((("a", 1), ("b", 2)), "ca", "abc", True, 3), ((("a", 1), ("b", 2)), "ca", "abc", True, 10 ** 60)),
    (((("a", 1), ("b", 2)), "ca", "abc", True, 3), ((("a", 1), ("b", 2)), "ca", "abc", True, None)),
    (((("a", 1), ("b", 2)), "ca", "abc", True, 3), ((), "", "", False, None)),
    (((), "", "abc", False, None), ((), "", "abc", False, None)),
    (((), "", "abc", False, 1), ((), "", "b", False, 1)),
    (EMPTY, ((), "", "", False, None)),
    (EMPTY, ((("a", 1), ("b", 2)), "ca", "abc", True, 1)),
    (EMPTY, EMPTY),
]

# A knowledge, and one of which just one part is not as weak.
NOT_WEAKER = [
    # the constants
    (((("a", 1),), "ca", "ab", False, 3), ((("a", 2),), "ca", "ab", False, 3)),
    (((("a", 1),), "ca", "ab", False, 3), ((("b", 1),), "ca", "ab", False, 3)),
    (((("a", 1),), "ca", "ab", False, 3), ((("a", 1), ("b", 1)), "ca", "ab", False, 3)),
    (((("a", 1), ("c", 2)), "", "", True, None), ((("a", 1), ("b", 2)), "", "", True, None)),
    (((), "ca", "ab", False, 3), ((("a", 1),), "ca", "ab", False, 3)),
    # the order
    (((("a", 1),), "ca", "ab", False, 3), ((("a", 1),), "a", "ab", False, 3)),
    (((("a", 1),), "ca", "ab", False, 3), ((("a", 1),), "ac", "ab", False, 3)),
    (((("a", 1),), "ca", "ab", False, 3), ((("a", 1),), "cab", "ab", False, 3)),
    (((("a", 1),), "ca", "ab", False, 3), ((("a", 1),), "cb", "ab", False, 3)),
    (((("a", 1),), "", "ab", False, 3), ((("a", 1),), "c", "ab", False, 3)),
    # known
    (((("a", 1),), "ca", "ab", False, 3), ((("a", 1),), "ca", "abc", False, 3)),
    (((("a", 1),), "ca", "ab", False, 3), ((("a", 1),), "ca", "c", False, 3)),
    (((("a", 1),), "ca", "ab", False, 3), ((("a", 1),), "ca", "bc", False, 3)),
    (((("a", 1),), "ca", "", False, 3), ((("a", 1),), "ca", "a", False, 3)),
    # counted
    (((("a", 1),), "ca", "ab", False, 3), ((("a", 1),), "ca", "ab", True, 3)),
    (((), "", "", False, None), ((), "", "", True, None)),
    # most
    (((("a", 1),), "ca", "ab", False, 3), ((("a", 1),), "ca", "ab", False, 2)),
    (((("a", 1),), "ca", "ab", False, 3), ((("a", 1),), "ca", "ab", False, 1)),
    (((("a", 1),), "ca", "ab", False, None), ((("a", 1),), "ca", "ab", False, 3)),
    (((), "", "", True, None), ((), "", "", True, 10 ** 60)),
    # ('empty',)
    (((("a", 1),), "ca", "ab", True, 1), EMPTY),
    (((), "", "", False, None), EMPTY),
]

# Schema, report and a derivation of it that is not what derive returns.
WEAKER_DERIVATIONS = [
    (KEYED, FULL, [((), "", "abc", True, None), ((), "ba", "abc", True, None), ((), "ba", "abc", True, None)]),
    (KEYED, NAMES, [((), "", "abc", True, None), ((), "b", "bc", True, None), ((), "b", "bc", True, 7),
                    ((), "b", "bc", True, None)]),
    (PLAIN, (("columns", "b"), ("sort", "b")), [((), "", "b", True, None), ((), "", "b", True, None),
                                                ((), "b", "b", True, None)]),
    (PLAIN, (("count", "b"),), [((), "", "b", True, None), ((), "", "b", True, None)]),
    (PLAIN, (("sum", "a", "c"),), [((), "", "ac", True, None), ((), "", "ac", True, None)]),
    # A knowledge may be weaker than ('empty',), and the last one still settles the report.
    (PLAIN, (("first", 0),), [((), "", "", False, None), EMPTY]),
    (PLAIN, (("first", 0), ("count", "a")), [((), "", "abc", True, None), ((), "", "a", True, 1),
                                             ((), "", "a", True, 4)]),
    (PLAIN, (("first", 0), ("skip", 3)), [((), "", "", False, None), ((), "", "", False, 3), EMPTY]),
    (PLAIN, (("first", 0), ("heads", "b")), [((), "", "abc", True, None), EMPTY, ((), "", "abc", True, 1)]),
    # The bound 1 settles it without the constant.
    (KEYED, (("where", "a", 1),), [((), "", "abc", True, None), ((), "", "abc", True, 1)]),
    (KEYED, (("where", "a", 1), ("heads", "b")), [((), "", "abc", True, None), ((("a", 1),), "", "abc", True, 1),
                                                  ((), "", "abc", True, 1)]),
    # The constant settles it without the bound.
    (KEYED, (("where", "a", 1),), [((), "", "abc", True, None), ((("a", 1),), "", "abc", True, None)]),
    (KEYED, (("columns", "bc"), ("where", "b", 1)), [((), "", "abc", True, None), ((), "", "bc", True, None),
                                                     ((("b", 1),), "", "bc", True, None)]),
]

# Schema, report and a list of knowledges that is no derivation of it.
NO_DERIVATIONS = [
    # the first one
    (KEYED, FULL, [((), "", "abc", True, 9), ((), "ba", "abc", True, 9), ((), "ba", "abc", True, 2)]),
    (KEYED, FULL, [((), "b", "abc", True, None), ((), "ba", "abc", True, None), ((), "ba", "abc", True, 2)]),
    (KEYED, FULL, [((("a", 1),), "", "abc", True, None), ((("a", 1),), "ba", "abc", True, None),
                   ((("a", 1),), "ba", "abc", True, 2)]),
    (KEYED, FULL, [EMPTY, EMPTY, EMPTY]),
    (PLAIN, (("count", "b"),), [((), "", "abc", True, 1), ((), "", "abc", True, 1)]),
    (PLAIN, (), [((), "abc", "abc", True, None)]),
    (PLAIN, (), [((), "", "abc", True, 1)]),
    (PLAIN, (), [EMPTY]),
    # one between
    (KEYED, FULL, [((), "", "abc", True, None), ((), "ba", "abc", True, 50), ((), "ba", "abc", True, 2)]),
    (KEYED, FULL, [((), "", "abc", True, None), ((), "bac", "abc", True, None), ((), "ba", "abc", True, 2)]),
    (KEYED, FULL, [((), "", "abc", True, None), ((), "ba", "abc", True, 2), ((), "ba", "abc", True, 2)]),
    (KEYED, FULL, [((), "", "abc", True, None), EMPTY, EMPTY]),
    (KEYED, FULL, [((), "", "ab", True, None), ((), "ba", "abc", True, None), ((), "ba", "abc", True, 2)]),
    (KEYED, FULL, [((), "", "abc", False, None), ((), "ba", "abc", True, None), ((), "ba", "abc", True, 2)]),
    (KEYED, NAMES, [((), "", "abc", True, None), ((), "b", "b", True, None), ((), "b", "bc", True, 2),
                    ((), "b", "bc", True, 2)]),
    # the last one
    (KEYED, FULL, [((), "", "abc", True, None), ((), "ba", "abc", True, None), ((), "ba", "abc", True, 1)]),
    (KEYED, FULL, [((), "", "abc", True, None), ((), "ba", "abc", True, None), EMPTY]),
    (PLAIN, TOP, [((), "", "abc", True, None), ((), "b", "abc", True, None), ((), "b", "abc", True, 2)]),
    (PLAIN, TOP, [((), "", "abc", True, None), ((), "b", "abc", True, None), ((), "bac", "abc", True, 2)]),
    # it does not settle the report
    (PLAIN, TOP, [((), "", "abc", True, None), ((), "b", "abc", True, None), ((), "b", "b", True, 2)]),
    (KEYED, FULL, [((), "", "abc", True, None), ((), "ba", "abc", True, None), ((), "ba", "ab", True, 2)]),
    (KEYED, FULL, [((), "", "abc", True, None), ((), "ba", "abc", True, None), ((), "b", "abc", True, 2)]),
    (KEYED, FULL, [((), "", "abc", True, None), ((), "ba", "abc", True, None), ((), "ba", "abc", False, 2)]),
    (PLAIN, (("first", 0),), [((), "", "abc", True, None), ((), "", "", True, None)]),
    (PLAIN, (("first", 0),), [((), "", "abc", True, None), ((), "abc", "abc", False, 1)]),
    (PLAIN, (("count", "b"),), [((), "", "abc", True, None), ((), "", "ac", True, None)]),
    (PLAIN, (("count", "b"),), [((), "", "abc", True, None), ((), "", "b", False, None)]),
    (PLAIN, (("sum", "a", "c"),), [((), "", "abc", True, None), ((), "", "ab", True, None)]),
    (PLAIN, (("sum", "a", "c"),), [((), "", "abc", True, None), ((), "", "bc", True, None)]),
    (PLAIN, (("sum", "a", "c"),), [((), "", "abc", True, None), ((), "", "ac", False, None)]),
    (PLAIN, (("sort", "ca"), ("heads", "b")), [((), "", "abc", True, None), ((), "ca", "abc", True, None),
                                               ((), "c", "abc", True, None)]),
    (PLAIN, (("sort", "ca"), ("heads", "b")), [((), "", "abc", True, None), ((), "ca", "abc", True, None),
                                               ((), "ca", "bc", True, None)]),
    (KEYED, (("where", "a", 1),), [((), "", "abc", True, None), ((), "", "abc", True, 2)]),
    (KEYED, (("where", "a", 1),), [((), "", "abc", True, None), ((), "", "ac", True, 1)]),
    (KEYED, (("where", "a", 1),), [((), "", "abc", True, None), ((), "", "abc", False, 1)]),
    (PLAIN, (("first", 0), ("heads", "b")), [((), "", "abc", True, None), EMPTY, ((), "", "abc", True, 2)]),
    (PLAIN, (("first", 0), ("heads", "b")), [((), "", "abc", True, None), EMPTY, ((), "", "ab", True, 1)]),
    (PLAIN, (("first", 0), ("heads", "b")), [((), "", "abc", True, None), EMPTY, ((), "", "abc", False, 1)]),
]


def plain_weaker(knowledge, other):
    """Whether the first one is weaker than the second one, or equal to it, by the words of point [11]."""
    if EMPTY in (knowledge, other):
        return other == EMPTY
    return (
        set(knowledge[0]) <= set(other[0])
        and other[1][:len(knowledge[1])] == knowledge[1]
        and set(knowledge[2]) <= set(other[2])
        and (not knowledge[3] or other[3])
        and (knowledge[4] is None or (other[4] is not None and other[4] <= knowledge[4]))
    )


class TestIsWeaker(unittest.TestCase):
    def test_weaker_or_equal_ones(self):
        for other, knowledge in WEAKER:
            self.assertIs(is_weaker(knowledge, other), True, (knowledge, other))

    def test_each_condition_broken_alone(self):
        for other, knowledge in NOT_WEAKER:
            self.assertIs(is_weaker(knowledge, other), False, (knowledge, other))

    def test_the_empty_one(self):
        self.assertIs(is_weaker(EMPTY, EMPTY), True)
        for knowledge in small_knowledges("ab")[1:]:
            self.assertIs(is_weaker(knowledge, EMPTY), True, knowledge)
            self.assertIs(is_weaker(EMPTY, knowledge), False, knowledge)

    def test_each_is_weaker_than_itself_or_equal(self):
        for knowledge in small_knowledges("ab"):
            self.assertIs(is_weaker(knowledge, knowledge), True, knowledge)

    def test_small_ones_against_the_words_of_the_point(self):
        some = small_knowledges("ab")[::7] + small_knowledges("ab")[-9:]
        for knowledge, other in product(some, repeat=2):
            self.assertIs(is_weaker(knowledge, other), plain_weaker(knowledge, other), (knowledge, other))


class TestIsDerivation(unittest.TestCase):
    def test_example(self):
        value = [((), "", "abc", True, None), ((), "ba", "abc", True, None), ((), "ba", "abc", True, 2)]
        self.assertIs(is_derivation(KEYED, FULL, value), True)

    def test_what_derive_returns(self):
        for schema, report in SETTLED:
            self.assertIs(is_derivation(schema, report, derive(schema, report)), True, report)
        for schema, report in NOT_SETTLED:
            self.assertIs(is_derivation(schema, report, derive(schema, report)), False, report)

    def test_weaker_ones(self):
        for schema, report, value in WEAKER_DERIVATIONS:
            self.assertIs(is_derivation(schema, report, value), True, (report, value))

    def test_no_derivations(self):
        for schema, report, value in NO_DERIVATIONS:
            self.assertIs(is_derivation(schema, report, value), False, (report, value))

    def test_a_weaker_knowledge_in_each_place(self):
        # Bounds of the number of rows are not needed here, so each may be left out, from the first one on.
        report = (("sort", "ba"), ("first", 5), ("skip", 1))
        value = derive(KEYED, report)
        for at in range(2, 4):
            weaker = [one if place < at else one[:4] + (None,) for place, one in enumerate(value)]
            self.assertIs(is_derivation(KEYED, report, weaker), True, weaker)
        stronger = value[:2] + [value[2][:4] + (None,)] + value[3:]
        self.assertIs(is_derivation(KEYED, report, stronger), False)

    def test_a_knowledge_missing_or_twice(self):
        for schema, report in SETTLED:
            value = derive(schema, report)
            for at in range(len(value)):
                self.assertIs(is_derivation(schema, report, value[:at] + value[at + 1:]), False, report)
                self.assertIs(is_derivation(schema, report, value[:at] + value[at:at + 1] + value[at:]), False, report)

    def test_another_report_of_the_same_length(self):
        value = derive(KEYED, FULL)
        self.assertIs(is_derivation(KEYED, (("sort", "ba"), ("first", 1)), value), True)
        self.assertIs(is_derivation(KEYED, (("sort", "ba"), ("first", 3)), value), False)
        self.assertIs(is_derivation(KEYED, (("sort", "bc"), ("first", 2)), value), False)
        self.assertIs(is_derivation(PLAIN, FULL, value), False)
        self.assertIs(is_derivation(KEYED, (("sort", "ba"), ("skip", 2)), value), False)

    def test_a_part_of_another_kind(self):
        for schema, report in ((KEYED, FULL), (PLAIN, (("where", "a", 3), ("sort", "bc"), ("first", 1)))):
            value = derive(schema, report)
            for other in replaced(value):
                # None in the place of the last bound only makes the knowledge weaker.
                right = repr(other) == repr(value[:-1] + [value[-1][:4] + (None,)])
                self.assertIs(is_derivation(schema, report, other), right, other)

    def test_forms_that_are_no_knowledge(self):
        value = derive(PLAIN, (("where", "a", 1), ("sort", "bc")))
        last = ((("a", 1),), "bc", "abc", True, None)
        self.assertEqual(value[-1], last)
        for other in [
            ((("a", 1), ("a", 1)), "bc", "abc", True, None),
            ((("a", True),), "bc", "abc", True, None),
            ((("a", 1),), "bc", "bac", True, None),
            ((("a", 1),), "bc", "abc", 1, None),
            ((("a", 1),), "bc", "abc", True, 0),
            ((("a", 1),), "bc", "abc", True),
            ((("a", 1),), "bc", "abc", True, None, None),
        ]:
            self.assertIs(is_derivation(PLAIN, (("where", "a", 1), ("sort", "bc")), value[:-1] + [other]), False, other)

    def test_values_of_any_kind(self):
        for at, value in enumerate(odd_values()):
            with self.subTest(at=at):
                for report in ((), (("sort", "abc"),), FULL):
                    self.assertIs(is_derivation(PLAIN, report, value), False)
                    self.assertIs(is_derivation(PLAIN, report, [value] * (1 + len(report))), False)
                found = derive(KEYED, FULL)
                for place in range(3):
                    changed = found[:place] + [value] + found[place + 1:]
                    self.assertIs(is_derivation(KEYED, FULL, changed), False)

    def test_the_empty_report(self):
        # All columns are in the closure of the empty column set, so there is at most one row.
        schema = ("abc", (("", "b"),), ("b",))
        for value, right in [
            ([((), "", "abc", True, 1)], True),
            ([((), "", "abc", True, None)], True),
            ([((), "", "abc", True, 2)], True),
            ([((), "", "ab", True, 1)], False),
            ([((), "", "abc", False, 1)], False),
            ([], False),
            ((), False),
            ([((), "", "abc", True, 1)] * 2, False),
        ]:
            self.assertIs(is_derivation(schema, (), value), right, value)
        self.assertIs(is_derivation(("b", (("", "b"),), ()), (), [((), "", "b", True, None)]), True)


class TestFindDerivation(unittest.TestCase):
    def test_example(self):
        self.assertIsNone(find_derivation(PLAIN, TOP))

    def test_settled_reports(self):
        for schema, report in SETTLED:
            found = find_derivation(schema, report)
            self.assertEqual(found, derive(schema, report), report)
            self.assertIs(is_derivation(schema, report, found), True, report)

    def test_reports_that_are_not_settled(self):
        for schema, report in NOT_SETTLED:
            self.assertIsNone(find_derivation(schema, report), report)
            self.assertIs(is_settled(schema, report), False)
