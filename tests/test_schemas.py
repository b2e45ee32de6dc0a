"""Points [4] and [5]: schemas, closures and tables."""

import unittest
from itertools import combinations, product

from openties.errors import NoTable
from openties.schemas import alike_table, closure, is_schema, is_table
from samples import KEYED, PLAIN, all_keys, all_rules, odd_values, replaced, small_schemas, subsets

CHAIN = ("abcde", (("d", "e"), ("c", "d"), ("ab", "c")), ())

RIGHT_SCHEMAS = [
    PLAIN,
    KEYED,
    CHAIN,
    ("a", (), ()),
    ("z", (), ("z",)),
    ("vwxyz", (("", "v"), ("vwxy", "z")), ("vwxyz",)),
    ("az", (("a", "z"), ("z", "a")), ("a", "z")),
    ("abc", (("b", "c"), ("b", "a"), ("ab", "c")), ("ab", "a", "abc")),
    ("abcde", all_rules("abcde"), all_keys("abcde")),
]

WRONG_SCHEMAS = [
    # the parts of the tuple
    ("abc", ()),
    ("abc", (), (), ()),
    ((), (), "abc"),
    ("abc", ("a",), (("b", "c"),)),
    # the columns
    ("", (), ()),
    ("abcdef", (), ()),
    ("ba", (), ()),
    ("acb", (), ()),
    ("aa", (), ()),
    ("abb", (), ()),
    ("A", (), ()),
    ("aB", (), ()),
    ("a1", (), ()),
    ("a b", (), ()),
    ("`a", (), ()),
    ("z{", (), ()),
    ("a\u00e9", (), ()),
    ("\uff41", (), ()),
    # the rules
    ("abc", (("b", "b"),), ()),
    ("abc", (("bc", "c"),), ()),
    ("abc", (("b", "d"),), ()),
    ("abc", (("d", "b"),), ()),
    ("abc", (("bd", "a"),), ()),
    ("abc", (("cb", "a"),), ()),
    ("abc", (("bb", "a"),), ()),
    ("abc", (("b", ""),), ()),
    ("abc", (("a", "bc"),), ()),
    ("abc", (("b",),), ()),
    ("abc", (("b", "c", "a"),), ()),
    ("abc", ((),), ()),
    ("abc", ("b", "c"), ()),
    ("abc", ("bc",), ()),
    ("abc", (("b", "c"), ("b", "c")), ()),
    ("abc", (("b", "c"), ("a", "c"), ("b", "c")), ()),
    # the keys
    ("abc", (), ("",)),
    ("abc", (), ("a", "")),
    ("abc", (), ("d",)),
    ("abc", (), ("ad",)),
    ("abc", (), ("ba",)),
    ("abc", (), ("aa",)),
    ("abc", (), ("a", "a")),
    ("abc", (), ("a", "b", "a")),
    ("abc", (), (("a",),)),
]


def plain_closure(schema, columns):
    """The closure by the words of point [4]: the smallest column set of those that hold what it must."""
    every, rules, keys = schema

    def holds(found):
        if not set(columns) <= set(found):
            return False
        if any(set(left) <= set(found) and right not in found for left, right in rules):
            return False
        return found == every or not any(set(key) <= set(found) for key in keys)

    return min([found for found in subsets(every) if holds(found)], key=len)


def plain_is_table(schema, rows):
    """Whether these rows of integers are a table, by the words of point [5]: each two rows are compared."""
    every, rules, keys = schema
    named = [dict(zip(every, row)) for row in rows]
    for one, other in combinations(named, 2):
        for left, right in rules:
            if all(one[name] == other[name] for name in left) and one[right] != other[right]:
                return False
        if any(all(one[name] == other[name] for name in key) for key in keys):
            return False
    return True


class TestIsSchema(unittest.TestCase):
    def test_right_schemas(self):
        for schema in RIGHT_SCHEMAS:
            self.assertIs(is_schema(schema), True, schema)

    def test_each_letter_is_a_column(self):
        for letter in "abcdefghijklmnopqrstuvwxyz":
            self.assertIs(is_schema((letter, (), (letter,))), True, letter)

    def test_wrong_schemas(self):
        for schema in WRONG_SCHEMAS:
            self.assertIs(is_schema(schema), False, schema)

    def test_a_part_of_another_kind(self):
        for schema in RIGHT_SCHEMAS[:-1]:
            for value in replaced(schema):
                self.assertIs(is_schema(value), False, value)

    def test_values_of_any_kind(self):
        for at, value in enumerate(odd_values()):
            with self.subTest(at=at):
                self.assertIs(is_schema(value), False)


class TestClosure(unittest.TestCase):
    def test_examples(self):
        self.assertEqual([closure(KEYED, "b"), closure(KEYED, "a"), closure(PLAIN, "ab")], ["bc", "abc", "ab"])

    def test_rules_that_follow_from_each_other(self):
        self.assertEqual(closure(CHAIN, "ab"), "abcde")
        self.assertEqual(closure(CHAIN, "c"), "cde")
        self.assertEqual(closure(CHAIN, "a"), "a")
        self.assertEqual(closure(CHAIN, "be"), "be")
        self.assertEqual(closure(CHAIN, "ad"), "ade")

    def test_the_longest_chain(self):
        schema = ("abcde", (("d", "e"), ("c", "d"), ("b", "c"), ("a", "b"), ("", "a")), ())
        self.assertEqual(closure(schema, ""), "abcde")

    def test_a_key_that_is_reached_by_rules(self):
        schema = ("abcd", (("a", "b"), ("b", "c")), ("c",))
        self.assertEqual([closure(schema, "a"), closure(schema, "c"), closure(schema, "d")], ["abcd", "abcd", "d"])

    def test_a_key_of_several_columns(self):
        schema = ("abcd", (), ("ab",))
        self.assertEqual([closure(schema, "a"), closure(schema, "ac"), closure(schema, "ab")], ["a", "ac", "abcd"])

    def test_the_empty_column_set(self):
        self.assertEqual(closure(PLAIN, ""), "")
        self.assertEqual(closure(KEYED, ""), "")
        self.assertEqual(closure(("abc", (("", "b"), ("b", "a")), ()), ""), "ab")
        self.assertEqual(closure(("abc", (("", "b"),), ("b",)), ""), "abc")

    def test_one_column(self):
        self.assertEqual([closure(("a", (), ()), ""), closure(("a", (("", "a"),), ()), "")], ["", "a"])

    def test_small_schemas_against_the_words_of_the_point(self):
        for schema in small_schemas("abc", 2, 1) + small_schemas("yz", 4, 3):
            for columns in subsets(schema[0]):
                self.assertEqual(closure(schema, columns), plain_closure(schema, columns), (schema, columns))


class TestIsTable(unittest.TestCase):
    def test_examples(self):
        self.assertIs(is_table(KEYED, [(1, 5, 7), (2, 5, 7)]), True)
        self.assertIs(is_table(KEYED, [(1, 5, 7), (2, 5, 8)]), False)
        self.assertIs(is_table(KEYED, [(1, 5, 7), (1, 5, 7)]), False)

    def test_right_tables(self):
        big = 10 ** 60
        for schema, table in [
            (PLAIN, []),
            (KEYED, []),
            (PLAIN, [(1, 2, 3)]),
            (PLAIN, [(1, 2, 3)] * 4),
            (PLAIN, [(0, -1, -2), (-big, big, 0)]),
            (("z", (), ()), [(1,), (1,)]),
            (KEYED, [(1, 5, 7), (2, 6, 7), (3, 5, 7)]),
            (("abc", (("", "c"),), ()), [(1, 2, 3), (4, 5, 3)]),
            (("abc", (), ("ab",)), [(1, 1, 0), (1, 2, 0), (2, 1, 0)]),
            (PLAIN, [(1, 2, 3)] * 6000),
        ]:
            self.assertIs(is_table(schema, table), True, (schema, table[:5]))

    def test_wrong_tables(self):
        for schema, table in [
            (PLAIN, [()]),
            (PLAIN, [(1, 2)]),
            (PLAIN, [(1, 2, 3, 4)]),
            (PLAIN, [(1, 2, 3), (1, 2)]),
            (PLAIN, ((1, 2, 3),)),
            (PLAIN, [[1, 2, 3]]),
            (PLAIN, (1, 2, 3)),
            (PLAIN, [1, 2, 3]),
            (PLAIN, ["123"]),
            (PLAIN, [(1, 2, "3")]),
            (PLAIN, [(1, 2, None)]),
            (PLAIN, [(1, 2, True)]),
            (PLAIN, [(1, 0, 3), (1, False, 3)]),
            (KEYED, [(1, 5, 7), (2, 5, 7), (1, 6, 7)]),
            (KEYED, [(1, 5, 7), (2, 6, 7), (3, 5, 8)]),
            (("abc", (("", "c"),), ()), [(1, 2, 3), (4, 5, 6)]),
            (("abc", (("ab", "c"),), ()), [(1, 2, 3), (1, 2, 4)]),
            (("abc", (), ("ab",)), [(1, 1, 0), (1, 2, 0), (1, 1, 5)]),
            (("abc", (), ("c", "a")), [(1, 2, 3), (1, 2, 4)]),
            (("abc", (), ("c", "a")), [(1, 2, 3), (2, 2, 3)]),
        ]:
            self.assertIs(is_table(schema, table), False, (schema, table))

    def test_a_part_of_another_kind(self):
        for schema in (PLAIN, KEYED):
            for value in replaced([(1, 5, 7), (2, 5, 7), (3, -6, 0)]):
                self.assertIs(is_table(schema, value), False, value)

    def test_values_of_any_kind(self):
        for at, value in enumerate(odd_values()):
            with self.subTest(at=at):
                self.assertIs(is_table(PLAIN, value), False)
                self.assertIs(is_table(KEYED, value), False)

    def test_small_tables_against_the_words_of_the_point(self):
        rows = list(product((0, 1), repeat=2))
        tables = [list(table) for many in range(4) for table in product(rows, repeat=many)]
        for schema in small_schemas("ab", 4, 3):
            for table in tables:
                self.assertIs(is_table(schema, table), plain_is_table(schema, table), (schema, table))


class TestAlikeTable(unittest.TestCase):
    def check(self, schema, columns, count):
        table = alike_table(schema, columns, count)
        self.assertEqual(len(table), count)
        self.assertIs(is_table(schema, table), True)
        for place, name in enumerate(schema[0]):
            many = len({row[place] for row in table})
            self.assertEqual(many, min(count, 1) if name in closure(schema, columns) else count)

    def test_example(self):
        with self.assertRaises(NoTable) as caught:
            alike_table(KEYED, "a", 2)
        self.assertIsInstance(caught.exception.args[0], str)

    def test_a_closure_without_a_key(self):
        for schema, columns in [(PLAIN, ""), (PLAIN, "ab"), (PLAIN, "abc"), (KEYED, ""), (KEYED, "b"), (CHAIN, "c")]:
            for count in (0, 1, 2, 3, 29, 30):
                with self.subTest(schema=schema, columns=columns, count=count):
                    self.check(schema, columns, count)

    def test_a_closure_with_a_key(self):
        reached = ("abcd", (("a", "b"), ("b", "c")), ("c",))
        always = ("abc", (("", "b"),), ("b",))
        for schema, columns in [(KEYED, "a"), (KEYED, "abc"), (reached, "a"), (reached, "c"), (always, "")]:
            for count in (0, 1):
                with self.subTest(schema=schema, columns=columns, count=count):
                    self.check(schema, columns, count)
            for count in (2, 3, 30):
                with self.subTest(schema=schema, columns=columns, count=count):
                    self.assertRaises(NoTable, alike_table, schema, columns, count)

    def test_small_schemas(self):
        for schema in small_schemas("abc", 2, 1):
            for columns in subsets(schema[0]):
                found = closure(schema, columns)
                if any(set(key) <= set(found) for key in schema[2]):
                    self.assertRaises(NoTable, alike_table, schema, columns, 2)
                else:
                    self.check(schema, columns, 2)
                    self.check(schema, columns, 5)
                self.check(schema, columns, 1)
