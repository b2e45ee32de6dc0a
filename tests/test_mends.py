"""Point [13]: mends."""

import unittest
from itertools import permutations, product

from makers import pairs
from openties.knowledge import is_settled
from openties.mends import find_mend, is_mend, mended
from openties.reports import is_report
from openties.witnesses import find_witness
from samples import FULL, KEYED, NAMES, PLAIN, TOP, odd_values, replaced
from test_knowledge import NOT_SETTLED, PAIRED, SETTLED

THREE_SORTS = (("sort", "c"), ("stable", "ab"), ("where", "a", 1), ("sort", "b"), ("first", 2))
NARROW = (("sort", "c"), ("columns", "ab"), ("stable", "b"), ("first", 1))

# Report of PLAIN, and a mend of it.
RIGHT_MENDS = [
    ((), ()),
    ((("first", 2),), ()),
    ((("where", "a", 1), ("columns", "b"), ("count", "b")), ()),
    (TOP, ("",)),
    (TOP, ("a",)),
    (TOP, ("c",)),
    (TOP, ("ac",)),
    (TOP, ("ca",)),
    (FULL, ("",)),
    (FULL, ("c",)),
    ((("stable", "c"),), ("ba",)),
    ((("sort", "cab"), ("first", 2)), ("",)),
    (THREE_SORTS, ("", "", "")),
    (THREE_SORTS, ("ba", "c", "ca")),
    (THREE_SORTS, ("ab", "", "ac")),
    (NARROW, ("ab", "a")),
    (NARROW, ("ba", "")),
]

# Report of PLAIN, and a value that is no mend of it.
WRONG_MENDS = [
    # a string too many or too few
    ((), ("",)),
    ((), ("a",)),
    ((("first", 2),), ("",)),
    (TOP, ()),
    (TOP, ("", "")),
    (TOP, ("a", "")),
    (TOP, ("a", "c")),
    (THREE_SORTS, ("", "")),
    (THREE_SORTS, ("", "", "", "")),
    # a string for a step that does not sort
    (THREE_SORTS, ("ba", "c", "", "ca", "")),
    # a column of the step itself
    (TOP, ("b",)),
    (TOP, ("ab",)),
    (FULL, ("a",)),
    (FULL, ("cb",)),
    (THREE_SORTS, ("c", "", "")),
    (THREE_SORTS, ("", "a", "")),
    (THREE_SORTS, ("", "", "b")),
    # a column twice
    (TOP, ("aa",)),
    (TOP, ("aca",)),
    (TOP, ("acac",)),
    (FULL, ("cc",)),
    # a column that is not kept at this step, or none of the schema
    (NARROW, ("", "c")),
    (NARROW, ("", "ac")),
    (TOP, ("d",)),
    (TOP, ("A",)),
    (TOP, ("a ",)),
    (TOP, (" ",)),
    (TOP, ("a,c",)),
    # other kinds
    (TOP, ["a"]),
    (TOP, "a"),
    (TOP, (["a"],)),
    (TOP, (("a",),)),
    (TOP, (("a", "c"),)),
    (TOP, (None,)),
    (TOP, (True,)),
    (TOP, (0,)),
    (TOP, {0: "a"}),
    (TOP, {"a": "a"}),
    (TOP, None),
    ((), []),
    ((), None),
    ((), False),
    ((), ""),
    ((), {}),
    (THREE_SORTS, ["ba", "c", "ca"]),
    (THREE_SORTS, ("ba", "c", ["ca"])),
]

# Schema, report, and what find_mend returns.
FOUND = [
    (KEYED, TOP, ("a",)),
    (KEYED, FULL, ("",)),
    (PLAIN, TOP, ("ac",)),
    (PLAIN, (("first", 2),), None),
    (PLAIN, (("where", "a", 1), ("skip", 1)), None),
    (PLAIN, (("heads", "a"),), None),
    (PLAIN, (), None),
    (PLAIN, (("count", "a"),), ()),
    (KEYED, (("where", "a", 1), ("first", 1)), ()),
    (PLAIN, (("first", 0),), ()),
    (PLAIN, NAMES, ("c",)),
    (KEYED, NAMES, ("",)),
    (PLAIN, FULL, ("c",)),
    # only the last 'sort' and the 'stable' steps behind it count
    (PLAIN, (("stable", "c"), ("sort", "b"), ("first", 2)), ("", "ac")),
    (PLAIN, (("sort", "c"), ("stable", "b"), ("first", 2)), ("", "a")),
    (PLAIN, (("stable", "a"), ("sort", "b"), ("stable", "c"), ("first", 2)), ("", "", "a")),
    (PLAIN, (("sort", "a"), ("sort", "b"), ("sort", "c"), ("first", 2)), ("", "", "ab")),
    # a column that is no longer kept can only be added further ahead
    (PLAIN, (("sort", "b"), ("columns", "ac"), ("stable", "c"), ("first", 2), ("columns", "c")), ("", "")),
    (("abcd", (), ("ad",)), (("sort", "b"), ("columns", "ac"), ("stable", "c"), ("first", 2)), ("", "a")),
    (("abcd", (("bd", "a"),), ()), (("sort", "b"), ("columns", "abc"), ("stable", "c"), ("first", 2)), ("", "a")),
    (("abcde", (("de", "a"), ("d", "b")), ()),
     (("sort", "e"), ("columns", "abc"), ("stable", "c"), ("first", 2)), ("d", "")),
    (("abcd", (("d", "a"), ("d", "b")), ()), (("sort", "c"), ("columns", "abc"), ("stable", "c"), ("first", 2)),
     ("d", "")),
    # filters, rules and keys spare columns
    (PLAIN, (("where", "c", 1), ("sort", "b"), ("first", 2)), ("a",)),
    (PLAIN, (("sort", "b"), ("first", 2), ("where", "c", 1)), ("ac",)),
    (PLAIN, (("sort", "b"), ("first", 2), ("where", "c", 1), ("columns", "b")), ("c",)),
    (KEYED, (("sort", "c"), ("first", 2), ("columns", "bc")), ("a",)),
    (("abc", (("b", "c"),), ()), (("sort", "c"), ("first", 2), ("columns", "bc")), ("b",)),
    (KEYED, (("sort", "c"), ("heads", "b")), ("a",)),
    (PLAIN, (("sort", "c"), ("heads", "b")), ("a",)),
    (PAIRED, (("sort", "c"), ("first", 3)), ("ab",)),
    # of several ones the first one in ascending order
    (("abc", (("a", "b"), ("b", "a")), ()), (("sort", "c"), ("first", 3)), ("a",)),
    (("abcd", (), ("ad", "bd", "cd")), (("sort", "d"), ("first", 3)), ("a",)),
    (("abcd", (), ("bd", "cd")), (("sort", "d"), ("first", 3)), ("b",)),
    (("abcd", (), ("bd", "cd")), (("stable", "d"), ("stable", "a"), ("first", 3)), ("", "b")),
]


def all_mends(schema, report):
    """All mends of the report in ascending order of their sizes, those of one size in ascending order."""
    kept, choices = schema[0], []
    for step in report:
        if step[0] in ("sort", "stable"):
            free = [column for column in kept if column not in step[1]]
            choices.append(["".join(part) for many in range(len(free) + 1) for part in permutations(free, many)])
        if step[0] == "columns":
            kept = step[1]
    return sorted(product(*choices), key=lambda mend: (sum(len(part) for part in mend), mend))


def plain_mended(report, mend):
    parts = list(mend)
    return tuple((step[0], step[1] + parts.pop(0)) if step[0] in ("sort", "stable") else step for step in report)


def number_of_sorts(report):
    return len([step for step in report if step[0] in ("sort", "stable")])


class TestIsMend(unittest.TestCase):
    def test_right_ones(self):
        for report, mend in RIGHT_MENDS:
            self.assertIs(is_mend(PLAIN, report, mend), True, (report, mend))

    def test_wrong_ones(self):
        for report, value in WRONG_MENDS:
            self.assertIs(is_mend(PLAIN, report, value), False, (report, value))

    def test_all_mends_are_mends(self):
        for report, _ in RIGHT_MENDS:
            for mend in all_mends(PLAIN, report):
                self.assertIs(is_mend(PLAIN, report, mend), True, (report, mend))

    def test_all_short_strings(self):
        strings = ["".join(part) for many in range(4) for part in product("abcd", repeat=many)]
        for report in (TOP, FULL, (("columns", "bc"), ("stable", "c")), (("sort", "b"), ("columns", "ac"))):
            right = all_mends(PLAIN, report)
            for string in strings:
                self.assertIs(is_mend(PLAIN, report, (string,)), (string,) in right, (report, string))

    def test_a_mend_of_another_report(self):
        self.assertIs(is_mend(PLAIN, (("sort", "a"), ("first", 2)), ("b",)), True)
        self.assertIs(is_mend(PLAIN, (("sort", "a"), ("first", 2)), ("a",)), False)
        self.assertIs(is_mend(("b", (), ()), (("sort", "b"),), ("a",)), False)
        self.assertIs(is_mend(("b", (), ()), (("sort", "b"),), ("",)), True)

    def test_a_part_of_another_kind(self):
        for report, mend in ((TOP, ("ac",)), (THREE_SORTS, ("ba", "c", "ca")), (NARROW, ("ab", ""))):
            for value in replaced(mend):
                self.assertIs(is_mend(PLAIN, report, value), False, value)

    def test_values_of_any_kind(self):
        for at, value in enumerate(odd_values()):
            with self.subTest(at=at):
                for report in (TOP, THREE_SORTS):
                    self.assertIs(is_mend(PLAIN, report, value), False)
                self.assertIs(is_mend(PLAIN, (), value), False)
                right = isinstance(value, str) and value in ("", "a")
                self.assertIs(is_mend(PLAIN, TOP, (value,)), right)
                self.assertIs(is_mend(PLAIN, THREE_SORTS, ("", "", value)), right)
                self.assertIs(is_mend(PLAIN, (), (value,)), False)


class TestMended(unittest.TestCase):
    def test_example(self):
        self.assertEqual(mended(TOP, ("a",)), (("sort", "ba"), ("first", 2)))

    def test_several_steps(self):
        self.assertEqual(
            mended(THREE_SORTS, ("ba", "c", "ac")),
            (("sort", "cba"), ("stable", "abc"), ("where", "a", 1), ("sort", "bac"), ("first", 2)),
        )
        self.assertEqual(mended(THREE_SORTS, ("", "", "")), THREE_SORTS)
        self.assertEqual(mended((("stable", "b"), ("sort", "c")), ("ca", "")), (("stable", "bca"), ("sort", "c")))
        self.assertEqual(mended(NARROW, ("", "a")), (*NARROW[:2], ("stable", "ba"), NARROW[3]))
        self.assertEqual(mended(NARROW, ("ba", "")), (("sort", "cba"), *NARROW[1:]))

    def test_reports_without_a_sort(self):
        for report in ((), (("first", 2),), (("where", "a", 1), ("columns", "ab"), ("skip", 3), ("sum", "a", "b"))):
            found = mended(report, ())
            self.assertEqual(found, report)
            self.assertIs(type(found), tuple)

    def test_it_is_a_report(self):
        for schema, report in pairs(21, 300, most=5):
            for mend in all_mends(schema, report)[:20]:
                found = mended(report, mend)
                self.assertIs(is_report(schema, found), True, (schema, report, mend))
                self.assertEqual(found, plain_mended(report, mend))


class TestFindMend(unittest.TestCase):
    def test_examples_and_others(self):
        for schema, report, mend in FOUND:
            self.assertIs(is_report(schema, report), True, report)
            found = find_mend(schema, report)
            self.assertEqual(found, mend, (schema, report))
            self.assertIs(type(found), type(mend))

    def test_settled_reports_need_none(self):
        for schema, report in SETTLED:
            self.assertEqual(find_mend(schema, report), ("",) * number_of_sorts(report), (schema, report))

    def test_against_a_search_through_all_mends(self):
        sizes = {}
        for schema, report in pairs(22, 600) + NOT_SETTLED:
            if number_of_sorts(report) > 3 or len(schema[0]) ** number_of_sorts(report) > 64:
                continue
            right = [mend for mend in all_mends(schema, report) if is_settled(schema, plain_mended(report, mend))]
            found = find_mend(schema, report)
            self.assertEqual(found, right[0] if right else None, (schema, report))
            if found is not None:
                self.assertIs(is_mend(schema, report, found), True, (schema, report))
                self.assertIsNone(find_witness(schema, mended(report, found)), (schema, report))
            size = None if found is None else len("".join(found))
            sizes[size] = sizes.get(size, 0) + 1
        self.assertEqual(set(sizes) - {4}, {None, 0, 1, 2, 3}, sizes)

    def test_the_largest_ones_are_found_quickly(self):
        schema = ("abcde", (), ())
        for kinds in product(("sort", "stable"), repeat=3):
            report = tuple((kind, "a") for kind in kinds)
            for later in ((("first", 3),), (("skip", 1), ("heads", "c")), ()):
                self.assertEqual(find_mend(schema, report + later), ("", "", "bcde"), (kinds, later))
