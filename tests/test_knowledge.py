"""Points [8], [9] and [10]: knowledge, how steps change it, and when it settles a report."""

import unittest
from itertools import permutations, product

from openties.knowledge import derive, is_knowledge, is_settled, knowledge_after, start_knowledge
from openties.reports import is_report
from openties.schemas import closure
from samples import FULL, KEYED, NAMES, PLAIN, TOP, odd_values, replaced, subsets

EMPTY = ("empty",)
PAIRED = ("abc", (), ("ab",))
REACHED = ("abcd", (("a", "b"), ("b", "c")), ("c",))
ALWAYS = ("abc", (("", "b"),), ("b",))

RIGHT_KNOWLEDGES = [
    EMPTY,
    ((), "", "", False, None),
    ((), "", "", True, 1),
    ((), "", "abc", True, None),
    ((), "b", "b", True, 2),
    ((), "cab", "ac", False, 10 ** 60),
    ((), "abc", "", True, None),
    ((), "ca", "b", True, 3),
    ((("a", 0),), "", "abc", True, None),
    ((("c", -5),), "a", "", False, 1),
    ((("a", 1), ("b", 1)), "ba", "a", True, 7),
    ((("b", 10 ** 60), ("c", -(10 ** 60))), "", "bc", True, None),
    ((("a", 3), ("b", 2), ("c", 1)), "cba", "abc", True, 1),
]

WRONG_KNOWLEDGES = [
    # the parts of the tuple
    (),
    ("empty", "empty"),
    ("Empty",),
    ("",),
    ("emptyy",),
    (("empty",),),
    ("empty", "", "", False, None),
    ((), "", "", False),
    ((), "", "abc", True),
    ((), "", "abc", True, None, None),
    ("", "abc", True, None),
    ((), "abc", True, None),
    ((), "", True, None),
    ((), "", "", None),
    # the constants
    ((("a", 1), ("a", 1)), "", "abc", True, None),
    ((("a", 1), ("a", 2)), "", "abc", True, None),
    ((("b", 1), ("a", 1)), "", "abc", True, None),
    ((("a", 1), ("c", 1), ("b", 1)), "", "abc", True, None),
    ((("a", 1), ("b", 1), ("c", 1), ("c", 1)), "", "abc", True, None),
    ((("d", 1),), "", "abc", True, None),
    ((("", 1),), "", "abc", True, None),
    ((("ab", 1),), "", "abc", True, None),
    ((("A", 1),), "", "abc", True, None),
    ((("a",),), "", "abc", True, None),
    ((("a", 1, 1),), "", "abc", True, None),
    (((1, "a"),), "", "abc", True, None),
    (("a", 1), "", "abc", True, None),
    ((("a", True),), "", "abc", True, None),
    ((("a", None),), "", "abc", True, None),
    ((("a", "1"),), "", "abc", True, None),
    (((),), "", "abc", True, None),
    # the order
    ((), "aa", "abc", True, None),
    ((), "aba", "abc", True, None),
    ((), "d", "abc", True, None),
    ((), "abcd", "abc", True, None),
    ((), "a b", "abc", True, None),
    # the columns in known
    ((), "", "ba", True, None),
    ((), "", "acb", True, None),
    ((), "", "aa", True, None),
    ((), "", "d", True, None),
    ((), "", "abcd", True, None),
    ((), "", "a,b", True, None),
    # counted and most
    ((), "", "abc", 1, None),
    ((), "", "abc", 0, None),
    ((), "", "abc", None, None),
    ((), "", "abc", "True", None),
    ((), "", "abc", True, 0),
    ((), "", "abc", True, -1),
    ((), "", "abc", True, True),
    ((), "", "abc", True, False),
    ((), "", "abc", True, "2"),
    ((), "", "abc", True, ()),
    ((), "", "abc", None, True),
]

# Schema, knowledge, step, and the knowledge after it.
AFTER = [
    # 'where': constants has the column with another value
    (PLAIN, ((("a", 1),), "", "abc", True, None), ("where", "a", 2), EMPTY),
    (PLAIN, ((("a", 1), ("b", 2)), "c", "", False, 7), ("where", "b", -2), EMPTY),
    (KEYED, ((("a", 1),), "", "abc", True, 1), ("where", "a", 0), EMPTY),
    # with the value
    (PLAIN, ((("a", 1),), "b", "abc", True, None), ("where", "a", 1), ((("a", 1),), "b", "abc", True, None)),
    (PLAIN, ((("a", 1), ("c", 4)), "", "b", True, 3), ("where", "c", 4), ((("a", 1), ("c", 4)), "", "b", True, 3)),
    (KEYED, ((("a", 1),), "", "bc", True, None), ("where", "a", 1), ((("a", 1),), "", "bc", True, None)),
    (ALWAYS, ((("c", 0),), "", "", True, 5), ("where", "c", 0), ((("c", 0),), "", "", True, 5)),
    # added, the column is known
    (PLAIN, ((), "", "abc", True, None), ("where", "b", 5), ((("b", 5),), "", "abc", True, None)),
    (PLAIN, ((("b", 5),), "", "abc", True, None), ("where", "a", 9), ((("a", 9), ("b", 5)), "", "abc", True, None)),
    (PLAIN, ((("b", 5),), "", "abc", True, 4), ("where", "c", -1), ((("b", 5), ("c", -1)), "", "abc", True, 4)),
    (PLAIN, ((("a", 5), ("c", 5)), "ba", "b", False, 4), ("where", "b", 5),
     ((("a", 5), ("b", 5), ("c", 5)), "ba", "b", False, 4)),
    (PLAIN, ((), "ab", "ab", True, 2), ("where", "a", 0), ((("a", 0),), "ab", "ab", True, 2)),
    # added, the column is not known
    (PLAIN, ((), "b", "bc", True, None), ("where", "a", 1), ((("a", 1),), "b", "", False, None)),
    (PLAIN, ((), "a", "b", True, 4), ("where", "a", 1), ((("a", 1),), "a", "", False, 4)),
    (PLAIN, ((("b", 2),), "", "b", False, 1), ("where", "c", 1), ((("b", 2), ("c", 1)), "", "", False, 1)),
    (PLAIN, ((), "", "", True, None), ("where", "c", 1), ((("c", 1),), "", "", False, None)),
    # a key in the closure of the columns of the constants
    (KEYED, ((), "", "abc", True, None), ("where", "a", 1), ((("a", 1),), "", "abc", True, 1)),
    (KEYED, ((), "b", "b", True, 9), ("where", "a", 1), ((("a", 1),), "b", "", False, 1)),
    (KEYED, ((), "", "a", True, 1), ("where", "a", 1), ((("a", 1),), "", "a", True, 1)),
    (KEYED, ((), "a", "abc", True, None), ("where", "b", 1), ((("b", 1),), "a", "abc", True, None)),
    (KEYED, ((("a", 1),), "", "abc", True, None), ("where", "b", 1), ((("a", 1), ("b", 1)), "", "abc", True, 1)),
    (PAIRED, ((), "", "abc", True, None), ("where", "a", 1), ((("a", 1),), "", "abc", True, None)),
    (PAIRED, ((("a", 1),), "", "abc", True, 3), ("where", "b", 1), ((("a", 1), ("b", 1)), "", "abc", True, 1)),
    (PAIRED, ((("a", 1),), "b", "abc", True, 3), ("where", "c", 1), ((("a", 1), ("c", 1)), "b", "abc", True, 3)),
    (REACHED, ((), "", "abcd", True, None), ("where", "a", 1), ((("a", 1),), "", "abcd", True, 1)),
    (REACHED, ((), "", "abcd", True, None), ("where", "d", 1), ((("d", 1),), "", "abcd", True, None)),
    (ALWAYS, ((), "", "abc", True, None), ("where", "c", 1), ((("c", 1),), "", "abc", True, 1)),
    # 'sort'
    (PLAIN, ((), "", "abc", True, None), ("sort", "b"), ((), "b", "abc", True, None)),
    (PLAIN, ((), "c", "abc", True, None), ("sort", "ba"), ((), "ba", "abc", True, None)),
    (PLAIN, ((), "c", "abc", False, 3), ("sort", "cab"), ((), "cab", "abc", False, 3)),
    (PLAIN, ((), "a", "b", True, None), ("sort", "ba"), ((), "b", "b", True, None)),
    (PLAIN, ((), "a", "b", True, None), ("sort", "ab"), ((), "", "b", True, None)),
    (PLAIN, ((), "a", "ac", True, None), ("sort", "abc"), ((), "a", "ac", True, None)),
    (PLAIN, ((), "ba", "ac", True, None), ("sort", "cab"), ((), "ca", "ac", True, None)),
    (PLAIN, ((("a", 1),), "ba", "", True, 2), ("sort", "a"), ((("a", 1),), "", "", True, 2)),
    # 'stable'
    (PLAIN, ((), "", "abc", True, None), ("stable", "b"), ((), "b", "abc", True, None)),
    (PLAIN, ((), "ac", "abc", True, None), ("stable", "b"), ((), "bac", "abc", True, None)),
    (PLAIN, ((), "ca", "abc", True, None), ("stable", "ab"), ((), "abc", "abc", True, None)),
    (PLAIN, ((), "cba", "abc", True, None), ("stable", "b"), ((), "bca", "abc", True, None)),
    (PLAIN, ((), "ab", "abc", False, 6), ("stable", "ba"), ((), "ba", "abc", False, 6)),
    (PLAIN, ((), "c", "ab", True, None), ("stable", "ba"), ((), "bac", "ab", True, None)),
    (PLAIN, ((), "c", "b", True, None), ("stable", "ba"), ((), "b", "b", True, None)),
    (PLAIN, ((), "c", "b", True, None), ("stable", "ab"), ((), "", "b", True, None)),
    (PLAIN, ((), "b", "bc", True, None), ("stable", "ca"), ((), "c", "bc", True, None)),
    (PLAIN, ((("c", 0),), "ab", "", True, None), ("stable", "a"), ((("c", 0),), "", "", True, None)),
    # 'first'
    (PLAIN, ((), "b", "abc", True, None), ("first", 0), EMPTY),
    (PLAIN, ((), "b", "abc", True, 1), ("first", 0), EMPTY),
    (PLAIN, ((), "b", "abc", True, 2), ("first", 2), ((), "b", "abc", True, 2)),
    (PLAIN, ((), "b", "abc", False, 2), ("first", 3), ((), "b", "abc", False, 2)),
    (PLAIN, ((), "b", "abc", True, 1), ("first", 20), ((), "b", "abc", True, 1)),
    (PLAIN, ((), "b", "abc", True, 3), ("first", 2), ((), "b", "b", True, 2)),
    (PLAIN, ((), "b", "abc", False, None), ("first", 20), ((), "b", "b", False, 20)),
    (PLAIN, ((), "", "abc", True, None), ("first", 1), ((), "", "", True, 1)),
    (PLAIN, ((), "bc", "ab", True, None), ("first", 1), ((), "bc", "b", True, 1)),
    (PLAIN, ((("c", 4),), "a", "abc", True, None), ("first", 1), ((("c", 4),), "a", "ac", True, 1)),
    (PLAIN, ((("c", 4),), "a", "b", True, None), ("first", 1), ((("c", 4),), "a", "", True, 1)),
    (KEYED, ((), "b", "abc", True, None), ("first", 1), ((), "b", "bc", True, 1)),
    (KEYED, ((), "b", "ac", True, None), ("first", 1), ((), "b", "c", True, 1)),
    (KEYED, ((), "c", "abc", True, None), ("first", 1), ((), "c", "c", True, 1)),
    (KEYED, ((("b", 4),), "", "abc", True, None), ("first", 1), ((("b", 4),), "", "bc", True, 1)),
    (KEYED, ((), "ca", "bc", True, None), ("first", 7), ((), "ca", "bc", True, 7)),
    (PAIRED, ((("a", 4),), "b", "abc", True, None), ("first", 1), ((("a", 4),), "b", "abc", True, 1)),
    (ALWAYS, ((), "", "abc", True, None), ("first", 1), ((), "", "abc", True, 1)),
    # 'skip'
    (PLAIN, ((), "b", "abc", True, None), ("skip", 0), ((), "b", "abc", True, None)),
    (PLAIN, ((), "b", "abc", False, 1), ("skip", 0), ((), "b", "abc", False, 1)),
    (PLAIN, ((), "b", "abc", True, 2), ("skip", 2), EMPTY),
    (PLAIN, ((), "b", "abc", False, 2), ("skip", 3), EMPTY),
    (PLAIN, ((), "b", "abc", True, 1), ("skip", 20), EMPTY),
    (PLAIN, ((), "b", "abc", True, 3), ("skip", 2), ((), "b", "b", True, 1)),
    (PLAIN, ((), "b", "abc", False, 20), ("skip", 3), ((), "b", "b", False, 17)),
    (PLAIN, ((), "b", "abc", True, None), ("skip", 20), ((), "b", "b", True, None)),
    (PLAIN, ((), "", "abc", True, None), ("skip", 1), ((), "", "", True, None)),
    (PLAIN, ((), "bc", "ab", True, None), ("skip", 1), ((), "bc", "b", True, None)),
    (PLAIN, ((("c", 4),), "a", "abc", True, 2), ("skip", 1), ((("c", 4),), "a", "ac", True, 1)),
    (KEYED, ((), "b", "ac", True, None), ("skip", 1), ((), "b", "c", True, None)),
    (KEYED, ((("b", 4),), "", "abc", True, 5), ("skip", 1), ((("b", 4),), "", "bc", True, 4)),
    (KEYED, ((), "ca", "bc", True, None), ("skip", 7), ((), "ca", "bc", True, None)),
    (ALWAYS, ((), "", "abc", True, 3), ("skip", 1), ((), "", "abc", True, 2)),
    # 'columns'
    (PLAIN, ((), "", "abc", True, None), ("columns", "ac"), ((), "", "ac", True, None)),
    (PLAIN, ((), "", "abc", True, None), ("columns", "abc"), ((), "", "abc", True, None)),
    (PLAIN, ((), "", "bc", True, 2), ("columns", "ab"), ((), "", "b", True, 2)),
    (PLAIN, ((), "", "b", False, 2), ("columns", "ac"), ((), "", "", False, 2)),
    (PLAIN, ((("a", 1), ("b", 0)), "ca", "abc", True, None), ("columns", "b"),
     ((("a", 1), ("b", 0)), "ca", "b", True, None)),
    # the last steps
    (PLAIN, ((), "", "abc", True, None), ("count", "ac"), ((), "", "abc", True, None)),
    (PLAIN, ((("a", 1),), "ca", "b", False, 2), ("count", "a"), ((("a", 1),), "ca", "b", False, 2)),
    (PLAIN, ((("a", 1),), "ca", "b", True, 2), ("sum", "a", "c"), ((("a", 1),), "ca", "b", True, 2)),
    (KEYED, ((("a", 1),), "ca", "b", True, 2), ("heads", "a"), ((("a", 1),), "ca", "b", True, 2)),
]

ALL_STEPS = [("where", "a", 1), ("sort", "ba"), ("stable", "c"), ("first", 0), ("first", 3), ("skip", 0), ("skip", 3),
             ("columns", "a"), ("count", "a"), ("sum", "a", "b"), ("heads", "ab")]

SETTLED = [
    # without a last step that groups: all kept columns are placed
    (PLAIN, (("sort", "abc"),)),
    (PLAIN, (("sort", "cab"), ("first", 2))),
    (PLAIN, (("columns", "bc"), ("sort", "cb"))),
    (PLAIN, (("sort", "b"), ("columns", "b"))),
    (PLAIN, (("sort", "b"), ("first", 2), ("columns", "b"))),
    (PLAIN, (("sort", "b"), ("skip", 2), ("columns", "b"))),
    (PLAIN, (("sort", "c"), ("stable", "ab"), ("skip", 1))),
    (PLAIN, (("stable", "a"), ("stable", "b"), ("stable", "c"))),
    (PLAIN, (("where", "a", 1), ("sort", "bc"), ("first", 2))),
    (PLAIN, (("where", "a", 1), ("where", "b", 1), ("where", "c", 1))),
    (PLAIN, (("where", "a", 1), ("first", 2), ("columns", "a"))),
    (PLAIN, (("sort", "b"), ("first", 5), ("where", "b", 0), ("columns", "b"))),
    (KEYED, (("sort", "a"),)),
    (KEYED, NAMES),
    (KEYED, FULL),
    (KEYED, (("sort", "b"), ("first", 2), ("skip", 1), ("columns", "c"))),
    (KEYED, (("columns", "bc"), ("sort", "b"))),
    # most is 1 and all kept columns are known
    (KEYED, (("where", "a", 1),)),
    (KEYED, (("where", "a", 1), ("first", 1), ("columns", "bc"))),
    (KEYED, (("where", "a", 1), ("where", "c", 1))),
    (PAIRED, (("where", "a", 1), ("where", "b", 1))),
    (ALWAYS, ()),
    (ALWAYS, (("first", 2),)),
    (ALWAYS, (("first", 1), ("columns", "c"))),
    (ALWAYS, (("where", "c", 1),)),
    # 'count'
    (PLAIN, (("count", "a"),)),
    (PLAIN, (("count", "abc"),)),
    (PLAIN, (("sort", "b"), ("first", 2), ("count", "b"))),
    (PLAIN, (("where", "c", 1), ("skip", 2), ("count", "c"))),
    (KEYED, (("sort", "b"), ("first", 2), ("count", "bc"))),
    # 'sum'
    (PLAIN, (("sum", "a", "b"),)),
    (PLAIN, (("columns", "bc"), ("sum", "c", "b"))),
    (PLAIN, (("sort", "bc"), ("first", 2), ("sum", "b", "c"))),
    (KEYED, (("sort", "b"), ("first", 2), ("sum", "b", "c"))),
    # 'heads'
    (PLAIN, (("heads", "abc"),)),
    (PLAIN, (("columns", "b"), ("heads", "b"))),
    (PLAIN, (("sort", "ca"), ("heads", "b"))),
    (PLAIN, (("where", "a", 1), ("sort", "c"), ("heads", "b"))),
    (PLAIN, (("where", "a", 1), ("where", "c", 1), ("heads", "b"))),
    (PLAIN, (("sort", "abc"), ("first", 2), ("heads", "b"))),
    (KEYED, (("heads", "a"),)),
    (KEYED, (("columns", "bc"), ("heads", "b"))),
    (KEYED, (("sort", "a"), ("heads", "c"))),
    (KEYED, (("where", "a", 1), ("heads", "b"))),
    (ALWAYS, (("heads", "c"),)),
    # ('empty',)
    (PLAIN, (("first", 0),)),
    (PLAIN, (("first", 3), ("skip", 3))),
    (PLAIN, (("first", 3), ("skip", 20))),
    (PLAIN, (("first", 3), ("skip", 2), ("skip", 1))),
    (PLAIN, (("where", "a", 1), ("where", "a", 2))),
    (PLAIN, (("first", 2), ("where", "a", 1), ("where", "a", 2))),
    (PLAIN, (("first", 2), ("where", "a", 1), ("first", 0))),
    (PLAIN, (("first", 0), ("count", "a"))),
    (PLAIN, (("first", 1), ("skip", 1), ("sum", "a", "b"))),
    (PLAIN, (("first", 1), ("skip", 1), ("heads", "a"))),
]

NOT_SETTLED = [
    (PLAIN, ()),
    (PLAIN, TOP),
    (PLAIN, FULL),
    (PLAIN, NAMES),
    (KEYED, ()),
    (KEYED, TOP),
    (PLAIN, (("columns", "a"),)),
    (PLAIN, (("sort", "ab"),)),
    (PLAIN, (("sort", "a"), ("sort", "bc"))),
    (PLAIN, (("stable", "a"), ("sort", "bc"))),
    (PLAIN, (("stable", "a"), ("stable", "b"))),
    (PLAIN, (("first", 1),)),
    (PLAIN, (("first", 1), ("columns", "a"))),
    (PLAIN, (("skip", 1), ("columns", "a"))),
    (PLAIN, (("where", "a", 1), ("first", 1), ("columns", "ab"))),
    (PLAIN, (("sort", "b"), ("columns", "bc"))),
    (PLAIN, (("columns", "bc"), ("sort", "c"))),
    (KEYED, (("sort", "bc"), ("first", 2))),
    (KEYED, (("columns", "bc"), ("sort", "c"))),
    (KEYED, (("where", "b", 1),)),
    (PAIRED, (("where", "a", 1),)),
    # most is not 1
    (PLAIN, (("sort", "b"), ("first", 1))),
    (KEYED, (("first", 1),)),
    (PLAIN, (("first", 2), ("skip", 1), ("columns", "b"))),
    # 'count'
    (PLAIN, (("first", 2), ("count", "a"))),
    (PLAIN, (("sort", "b"), ("first", 2), ("count", "bc"))),
    (PLAIN, (("where", "c", 1), ("skip", 2), ("count", "b"))),
    (KEYED, (("sort", "b"), ("first", 2), ("count", "a"))),
    # 'sum'
    (PLAIN, (("first", 2), ("sum", "a", "b"))),
    (PLAIN, (("sort", "b"), ("first", 2), ("sum", "b", "c"))),
    (PLAIN, (("sort", "b"), ("first", 2), ("sum", "c", "b"))),
    (KEYED, (("sort", "b"), ("first", 2), ("sum", "b", "a"))),
    # 'heads'
    (PLAIN, (("heads", "a"),)),
    (PLAIN, (("heads", "ab"),)),
    (PLAIN, (("sort", "c"), ("heads", "b"))),
    (PLAIN, (("where", "a", 1), ("heads", "b"))),
    (PLAIN, (("sort", "b"), ("first", 2), ("heads", "b"))),
    (PLAIN, (("sort", "b"), ("first", 2), ("columns", "bc"), ("heads", "b"))),
    (KEYED, (("heads", "b"),)),
    (KEYED, (("columns", "bc"), ("heads", "c"))),
    (KEYED, (("first", 1), ("heads", "a"))),
    # counted is False
    (PLAIN, (("sort", "b"), ("first", 2), ("where", "a", 1))),
    (PLAIN, (("sort", "b"), ("first", 2), ("where", "a", 1), ("columns", "a"))),
    (PLAIN, (("first", 2), ("where", "a", 1), ("where", "b", 1), ("where", "c", 1))),
    (KEYED, (("first", 2), ("where", "a", 1))),
    (KEYED, (("first", 2), ("where", "a", 1), ("first", 1))),
    (PLAIN, (("first", 2), ("where", "a", 1), ("count", "a"))),
    (PLAIN, (("first", 2), ("where", "a", 1), ("sum", "a", "b"))),
    (PLAIN, (("first", 2), ("where", "a", 1), ("heads", "a"))),
    (KEYED, (("first", 2), ("where", "a", 1), ("heads", "a"))),
]


def plain_after(schema, knowledge, step):
    """The knowledge after a step by the words of point [9]."""
    if knowledge == EMPTY or step[0] in ("count", "sum", "heads"):
        return knowledge
    constants, order, known, counted, most = knowledge
    fixed = dict(constants)
    placed = [column for column in known if column in closure(schema, "".join(sorted({*order, *fixed})))]
    if step[0] == "where":
        if step[1] in fixed and fixed[step[1]] != step[2]:
            return EMPTY
        if step[1] in fixed:
            return knowledge
        fixed[step[1]] = step[2]
        if step[1] not in known:
            known, counted = "", False
        if any(set(key) <= set(closure(schema, "".join(sorted(fixed)))) for key in schema[2]):
            most = 1
    elif step[0] == "stable" and set(step[1]) <= set(known):
        order = step[1] + "".join(column for column in order if column not in step[1])
    elif step[0] in ("sort", "stable"):
        beginnings = [step[1][:at] for at in range(len(step[1]) + 1)]
        order = max([part for part in beginnings if set(part) <= set(known)], key=len)
    elif step[0] == "first":
        if step[1] == 0:
            return EMPTY
        if not (isinstance(most, int) and most <= step[1]):
            known, most = "".join(placed), step[1]
    elif step[0] == "skip" and step[1] > 0:
        if isinstance(most, int) and most <= step[1]:
            return EMPTY
        known = "".join(placed)
        most = most - step[1] if isinstance(most, int) else None
    elif step[0] == "columns":
        known = "".join(sorted(set(known) & set(step[1])))
    return tuple(sorted(fixed.items())), order, known, counted, most


def small_knowledges(columns):
    """Many knowledges of a schema with these columns, also such as occur in no report."""
    constants = [
        tuple(pairs) for part in subsets(columns) for pairs in product(*[[(one, 0), (one, 1)] for one in part])
    ]
    orders = ["".join(part) for many in range(len(columns) + 1) for part in permutations(columns, many)]
    return [EMPTY, *product(constants, orders, subsets(columns), (True, False), (None, 1, 2, 3))]


class TestIsKnowledge(unittest.TestCase):
    def test_right_knowledges(self):
        for schema in (PLAIN, KEYED):
            for knowledge in RIGHT_KNOWLEDGES:
                self.assertIs(is_knowledge(schema, knowledge), True, knowledge)

    def test_wrong_knowledges(self):
        for schema in (PLAIN, KEYED):
            for value in WRONG_KNOWLEDGES:
                self.assertIs(is_knowledge(schema, value), False, value)

    def test_the_columns_of_the_schema(self):
        for schema, right in ((("bx", (), ()), True), (("abxy", (), ()), True), (("b", (), ()), False)):
            self.assertIs(is_knowledge(schema, ((("x", 1),), "", "", True, None)), right)
            self.assertIs(is_knowledge(schema, ((), "xb", "", True, None)), right)
            self.assertIs(is_knowledge(schema, ((), "", "bx", True, None)), right)
            self.assertIs(is_knowledge(schema, EMPTY), True)

    def test_all_small_ones(self):
        for knowledge in small_knowledges("ab"):
            self.assertIs(is_knowledge(("ab", (), ()), knowledge), True, knowledge)

    def test_a_part_of_another_kind(self):
        for knowledge in RIGHT_KNOWLEDGES:
            # Only the bound may be of two kinds. The texts are compared, because True equals 1.
            right = [repr(knowledge[:4] + (most,)) for most in (None, 5)]
            for value in replaced(knowledge):
                self.assertIs(is_knowledge(PLAIN, value), repr(value) in right, value)

    def test_a_part_missing_or_too_many(self):
        for knowledge in RIGHT_KNOWLEDGES:
            for at in range(len(knowledge)):
                self.assertIs(is_knowledge(PLAIN, knowledge[:at] + knowledge[at + 1:]), False)
            for at in range(len(knowledge) + 1):
                for part in ((), "", True, None, 1, "empty"):
                    self.assertIs(is_knowledge(PLAIN, (*knowledge[:at], part, *knowledge[at:])), False)

    def test_values_of_any_kind(self):
        for at, value in enumerate(odd_values()):
            with self.subTest(at=at):
                self.assertIs(is_knowledge(PLAIN, value), False)
                self.assertIs(is_knowledge(PLAIN, (value,)), False)
                self.assertIs(is_knowledge(PLAIN, (value,) * 5), False)

    def test_values_of_any_kind_as_a_part(self):
        for at, value in enumerate(odd_values()):
            with self.subTest(at=at):
                is_integer = isinstance(value, int) and not isinstance(value, bool)
                is_columns = isinstance(value, str) and value in ("", "a", "abc")
                self.assertIs(is_knowledge(PLAIN, ((("a", value),), "", "", True, None)), is_integer)
                self.assertIs(is_knowledge(PLAIN, (((value, 1),), "", "", True, None)), value == "a")
                self.assertIs(is_knowledge(PLAIN, ((value,), "", "", True, None)), False)
                self.assertIs(is_knowledge(PLAIN, (value, "", "", True, None)), False)
                self.assertIs(is_knowledge(PLAIN, ((), value, "", True, None)), is_columns)
                self.assertIs(is_knowledge(PLAIN, ((), "", value, True, None)), is_columns)
                self.assertIs(is_knowledge(PLAIN, ((), "", "", value, None)), isinstance(value, bool))
                is_bound = value is None or is_integer and value > 0
                self.assertIs(is_knowledge(PLAIN, ((), "", "", True, value)), is_bound)

    def test_what_a_call_returned(self):
        for report in (TOP, FULL, NAMES):
            found = derive(KEYED, report)
            for knowledge in found:
                self.assertIs(is_knowledge(KEYED, knowledge), True)
                self.assertIs(is_knowledge(KEYED, list(knowledge)), False)
                self.assertIs(is_knowledge(KEYED, knowledge * 2), False)
                self.assertIs(is_knowledge(KEYED, knowledge[::-1]), False)
            self.assertIs(is_knowledge(KEYED, found), False)
            self.assertIs(is_knowledge(KEYED, tuple(found)), False)


class TestStartKnowledge(unittest.TestCase):
    def test_no_key_in_the_closure_of_the_empty_column_set(self):
        self.assertEqual(start_knowledge(PLAIN), ((), "", "abc", True, None))
        self.assertEqual(start_knowledge(KEYED), ((), "", "abc", True, None))
        self.assertEqual(start_knowledge(REACHED), ((), "", "abcd", True, None))
        self.assertEqual(start_knowledge(("z", (("", "z"),), ())), ((), "", "z", True, None))
        self.assertEqual(start_knowledge(("abc", (("", "b"),), ("a", "bc"))), ((), "", "abc", True, None))

    def test_a_key_in_the_closure_of_the_empty_column_set(self):
        self.assertEqual(start_knowledge(ALWAYS), ((), "", "abc", True, 1))
        self.assertEqual(start_knowledge(("z", (("", "z"),), ("z",))), ((), "", "z", True, 1))
        schema = ("abcd", (("b", "c"), ("", "b")), ("ad", "bc"))
        self.assertEqual(start_knowledge(schema), ((), "", "abcd", True, 1))


class TestKnowledgeAfter(unittest.TestCase):
    def test_each_rule(self):
        for schema, knowledge, step, expected in AFTER:
            with self.subTest(schema=schema, knowledge=knowledge, step=step):
                self.assertIs(is_knowledge(schema, knowledge), True)
                found = knowledge_after(schema, knowledge, step)
                self.assertEqual(found, expected)
                self.assertIs(is_knowledge(schema, found), True)

    def test_the_empty_one_stays_at_every_step(self):
        for schema in (PLAIN, KEYED, ALWAYS):
            for step in ALL_STEPS:
                self.assertEqual(knowledge_after(schema, EMPTY, step), EMPTY, step)

    def test_the_last_steps_change_nothing(self):
        for step in (("count", "ab"), ("sum", "b", "a"), ("heads", "a")):
            for knowledge in small_knowledges("ab"):
                self.assertEqual(knowledge_after(("ab", (("", "b"),), ("a",)), knowledge, step), knowledge)

    def test_all_small_ones_against_the_words_of_the_point(self):
        steps = [("where", "a", 0), ("where", "b", 1), ("sort", "a"), ("sort", "ab"), ("sort", "ba"), ("stable", "b"),
                 ("stable", "ab"), ("stable", "ba"), ("first", 0), ("first", 1), ("first", 2), ("skip", 0),
                 ("skip", 1), ("skip", 2), ("columns", "a"), ("columns", "b"), ("columns", "ab"), ("count", "a")]
        schemas = [("ab", (), ()), ("ab", (("b", "a"),), ()), ("ab", (), ("b",)), ("ab", (("a", "b"),), ("b",)),
                   ("ab", (("", "b"),), ("ab",)), ("ab", (), ("ab",))]
        for schema, knowledge, step in product(schemas, small_knowledges("ab"), steps):
            found = knowledge_after(schema, knowledge, step)
            self.assertEqual(found, plain_after(schema, knowledge, step), (schema, knowledge, step))
            self.assertIs(type(found), tuple)


class TestDerive(unittest.TestCase):
    def test_example(self):
        self.assertEqual(
            derive(PLAIN, TOP),
            [((), "", "abc", True, None), ((), "b", "abc", True, None), ((), "b", "b", True, 2)],
        )

    def test_no_step(self):
        self.assertEqual(derive(PLAIN, ()), [((), "", "abc", True, None)])
        self.assertEqual(derive(ALWAYS, ()), [((), "", "abc", True, 1)])

    def test_several_steps(self):
        report = (("where", "b", 5), ("sort", "ca"), ("stable", "a"), ("skip", 1), ("first", 4), ("columns", "ab"),
                  ("where", "a", -2), ("count", "b"))
        self.assertEqual(derive(KEYED, report), [
            ((), "", "abc", True, None),
            ((("b", 5),), "", "abc", True, None),
            ((("b", 5),), "ca", "abc", True, None),
            ((("b", 5),), "ac", "abc", True, None),
            ((("b", 5),), "ac", "abc", True, None),
            ((("b", 5),), "ac", "abc", True, 4),
            ((("b", 5),), "ac", "ab", True, 4),
            ((("a", -2), ("b", 5)), "ac", "ab", True, 1),
            ((("a", -2), ("b", 5)), "ac", "ab", True, 1),
        ])
        report = (("sort", "b"), ("first", 5), ("skip", 2), ("where", "c", 1), ("where", "a", 1), ("skip", 3))
        self.assertEqual(derive(PLAIN, report), [
            ((), "", "abc", True, None),
            ((), "b", "abc", True, None),
            ((), "b", "b", True, 5),
            ((), "b", "b", True, 3),
            ((("c", 1),), "b", "", False, 3),
            ((("a", 1), ("c", 1)), "b", "", False, 3),
            EMPTY,
        ])

    def test_the_empty_one_stays(self):
        later = (("where", "a", 1), ("columns", "ab"), ("first", 2), ("skip", 1), ("skip", 0), ("heads", "a"))
        for start in ((("first", 0),), (("where", "a", 1), ("where", "a", 2))):
            self.assertEqual(derive(PLAIN, start + later)[len(start):], [EMPTY] * 7)
        later = (("sort", "a"), ("stable", "b"), ("sum", "a", "b"))
        start = (("where", "a", 1), ("where", "a", 2))
        self.assertEqual(derive(PLAIN, start + later)[len(start):], [EMPTY] * 4)

    def test_each_knowledge_is_what_the_step_makes_of_the_one_before(self):
        for schema, report in SETTLED + NOT_SETTLED:
            found = derive(schema, report)
            self.assertEqual(len(found), 1 + len(report))
            self.assertEqual(found[0], start_knowledge(schema))
            for before, step, after in zip(found, report, found[1:]):
                self.assertEqual(after, plain_after(schema, before, step))


class TestIsSettled(unittest.TestCase):
    def test_examples(self):
        found = [is_settled(PLAIN, TOP), is_settled(PLAIN, FULL), is_settled(KEYED, FULL), is_settled(KEYED, NAMES)]
        self.assertEqual(found, [False, False, True, True])
        self.assertIs(is_settled(PLAIN, (("first", 3), ("skip", 3))), True)

    def test_settled_reports(self):
        for schema, report in SETTLED:
            self.assertIs(is_report(schema, report), True, report)
            self.assertIs(is_settled(schema, report), True, (schema, report))

    def test_reports_that_are_not_settled(self):
        for schema, report in NOT_SETTLED:
            self.assertIs(is_report(schema, report), True, report)
            self.assertIs(is_settled(schema, report), False, (schema, report))
