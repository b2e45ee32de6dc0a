"""Point [17]: minimal keys and equivalent schemas."""

import unittest
from itertools import combinations_with_replacement, product
from random import Random

from makers import some_schema
from openties.keys import are_equivalent, find_table, minimal_keys
from openties.schemas import closure, is_table
from samples import KEYED, PLAIN, small_schemas, subsets
from test_knowledge import ALWAYS, PAIRED, REACHED

# Schema, and its minimal keys.
MINIMAL = [
    (KEYED, ["a"]),
    (PLAIN, []),
    (("a", (), ()), []),
    (("a", (), ("a",)), ["a"]),
    (("abc", (("a", "b"), ("b", "c"), ("c", "a")), ()), []),
    # several minimal keys
    (("abc", (), ("a", "b")), ["a", "b"]),
    (("abc", (), ("c", "ab")), ["ab", "c"]),
    (("abc", (), ("bc", "ab", "ac")), ["ab", "ac", "bc"]),
    (("abcd", (), ("cd", "ad", "b")), ["ad", "b", "cd"]),
    (("abcde", (("a", "b"), ("b", "a")), ("ace",)), ["ace", "bce"]),
    # keys that contain another one
    (("abc", (), ("ab", "a")), ["a"]),
    (("abc", (), ("abc", "ab", "bc")), ["ab", "bc"]),
    # keys that are reached through rules
    (PAIRED, ["ab"]),
    (REACHED, ["a", "b", "c"]),
    (("abc", (("a", "b"),), ("ab",)), ["a"]),
    (("abc", (("c", "a"),), ("ab",)), ["ab", "bc"]),
    (("abcd", (("ab", "c"), ("c", "d")), ("d",)), ["ab", "c", "d"]),
    (("abcde", (("a", "b"), ("b", "c"), ("c", "d"), ("d", "e")), ("e",)), ["a", "b", "c", "d", "e"]),
    # a rule with an empty left side
    (ALWAYS, [""]),
    (("abc", (("", "b"),), ("ab",)), ["a"]),
    (("abc", (("", "a"), ("a", "b")), ("b",)), [""]),
    (("abc", (("", "a"), ("", "b"), ("", "c")), ("abc",)), [""]),
    (("abc", (("", "a"), ("", "b"), ("", "c")), ()), []),
    (("ab", (("", "a"),), ("ab", "b")), ["b"]),
]

# Schemas that are equivalent to each other.
EQUIVALENT = [
    [KEYED, ("abc", (("ab", "c"), ("b", "c")), ("a", "ab")), ("abc", (("b", "c"), ("a", "b")), ("a",)),
     ("abc", (("b", "c"),), ("ac", "ab", "a")), ("abc", (("b", "c"), ("ab", "c")), ("a", "abc"))],
    [("abc", (("b", "c"),), ("ab",)), ("abc", (("b", "c"),), ("abc", "ab")),
     ("abc", (("b", "c"), ("ab", "c")), ("abc",))],
    [PLAIN],
    [("abc", (("a", "b"), ("b", "c")), ()), ("abc", (("a", "c"), ("a", "b"), ("b", "c")), ()),
     ("abc", (("b", "c"), ("ab", "c"), ("a", "b")), ())],
    [("abc", (("a", "b"), ("b", "a")), ("ac",)), ("abc", (("b", "a"), ("a", "b")), ("bc",)),
     ("abc", (("b", "a"), ("a", "b")), ("abc",))],
    [ALWAYS, ("abc", (("", "a"), ("", "c"), ("", "b")), ("abc",)), ("abc", (("", "c"),), ("c",))],
    [("abc", (("", "a"), ("", "c"), ("", "b")), ()), ("abc", (("", "b"), ("b", "a"), ("a", "c")), ())],
    [("abc", (), ("abc",))],
    [("abc", (), ("ab", "bc")), ("abc", (("ab", "c"), ("bc", "a")), ("abc",)), ("abc", (("ab", "c"),), ("ab", "bc"))],
]


def tables_of_pairs(columns):
    """Tables of two rows that are equal in the columns of each column set."""
    first = (0,) * len(columns)
    return [[first, row] for row in product((0, 1), repeat=len(columns))]


class TestMinimalKeys(unittest.TestCase):
    def test_examples_and_others(self):
        for schema, keys in MINIMAL:
            self.assertEqual(minimal_keys(schema), keys, schema)

    def test_small_schemas_against_the_words_of_the_point(self):
        for schema in small_schemas("abc", 2, 2):
            closures = {part: set(closure(schema, part)) for part in subsets("abc")}
            unique = [part for part in closures if any(set(key) <= closures[part] for key in schema[2])]
            minimal = [part for part in unique if not any(set(other) < set(part) for other in unique)]
            self.assertEqual(minimal_keys(schema), sorted(minimal), schema)

    def test_no_two_rows_are_equal_in_a_unique_set(self):
        for schema in small_schemas("abc", 1, 1):
            tables = [table for table in tables_of_pairs("abc") if is_table(schema, table)]
            keys = minimal_keys(schema)
            for part in subsets("abc"):
                places = ["abc".index(column) for column in part]
                unique = not any(all(one[at] == other[at] for at in places) for one, other in tables)
                self.assertEqual(any(set(key) <= set(part) for key in keys), unique, (schema, part))


class TestEquivalence(unittest.TestCase):
    def check(self, schema, other):
        """find_table finds a table exactly if one of the pairs of rows is such a table."""
        found = find_table(schema, other)
        pairs = [pair for pair in tables_of_pairs(schema[0]) if is_table(schema, pair) and not is_table(other, pair)]
        self.assertIs(found is None, pairs == [], (schema, other))
        if found is not None:
            self.assertIs(type(found), list)
            self.assertEqual(len(found), 2)
            self.assertIs(is_table(schema, found), True, (schema, other, found))
            self.assertIs(is_table(other, found), False, (schema, other, found))
        return found is None

    def test_examples(self):
        self.assertIs(are_equivalent(KEYED, ("abc", (("ab", "c"), ("b", "c")), ("a", "ab"))), True)
        self.assertIsNone(find_table(KEYED, PLAIN))

    def test_each_with_each(self):
        for at, group in enumerate(EQUIVALENT):
            for place, others in enumerate(EQUIVALENT):
                for schema, other in product(group, others):
                    self.assertIs(are_equivalent(schema, other), at == place, (schema, other))
                    one, two = self.check(schema, other), self.check(other, schema)
                    self.assertIs(one and two, at == place, (schema, other))

    def test_both_directions(self):
        for narrow, wide in [
            (KEYED, PLAIN),
            (PAIRED, PLAIN),
            (KEYED, ("abc", (), ("a",))),
            (("abc", (), ("a",)), PAIRED),
            (("abc", (("", "b"),), ()), ("abc", (("a", "b"),), ())),
            (ALWAYS, ("abc", (), ("abc",))),
        ]:
            self.assertIsNone(find_table(narrow, wide), (narrow, wide))
            table = find_table(wide, narrow)
            self.assertIs(is_table(wide, table), True)
            self.assertIs(is_table(narrow, table), False)
            self.assertIs(are_equivalent(narrow, wide), False)
            self.assertIs(are_equivalent(wide, narrow), False)

    def test_neither_direction(self):
        for schema, other in [
            (("abc", (("a", "b"),), ()), ("abc", (("b", "a"),), ())),
            (("abc", (), ("a",)), ("abc", (), ("b",))),
            (("abc", (("b", "c"),), ()), ("abc", (), ("abc",))),
        ]:
            self.assertIs(self.check(schema, other), False)
            self.assertIs(self.check(other, schema), False)

    def test_small_schemas(self):
        schemas = small_schemas("ab", 2, 2)
        for schema, other in product(schemas, repeat=2):
            one, two = self.check(schema, other), self.check(other, schema)
            self.assertIs(are_equivalent(schema, other), one and two, (schema, other))

    def test_larger_tables_of_small_schemas(self):
        # Rules and keys look at two rows at a time: more rows tell no more schemas apart.
        rows = list(product((0, 1, 2), repeat=2))
        tables = [list(table) for many in range(4) for table in combinations_with_replacement(rows, many)]
        for schema, other in product(small_schemas("ab", 1, 1), repeat=2):
            if find_table(schema, other) is None:
                for table in tables:
                    self.assertLessEqual(is_table(schema, table), is_table(other, table), (schema, other, table))

    def test_many_schemas(self):
        random = Random(61)
        found = {True: 0, False: 0}
        for _ in range(1500):
            schema, other = some_schema(random), some_schema(random)
            if len(schema[0]) == len(other[0]):
                # The same schema with the letters of the other one.
                letters = dict(zip(schema[0], other[0]))
                rules = tuple(("".join(letters[one] for one in left), letters[right]) for left, right in schema[1])
                keys = tuple("".join(letters[one] for one in key) for key in schema[2])
                found[self.check((other[0], rules, keys), other)] += 1
        self.assertGreater(min(found.values()), 30, found)
