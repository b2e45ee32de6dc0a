"""Schemas, reports and odd values that several tests use."""

from itertools import combinations

PLAIN = ("abc", (), ())
KEYED = ("abc", (("b", "c"),), ("a",))
TOP = (("sort", "b"), ("first", 2))
FULL = (("sort", "ba"), ("first", 2))
NAMES = (("sort", "b"), ("first", 2), ("columns", "bc"))


def subsets(columns):
    """All column sets of the columns, the empty one first."""
    return ["".join(part) for size in range(len(columns) + 1) for part in combinations(columns, size)]


def all_rules(columns):
    return tuple((left, right) for left in subsets(columns) for right in columns if right not in left)


def all_keys(columns):
    return tuple(subsets(columns)[1:])


def small_schemas(columns, most_rules, most_keys):
    """All schemas of the columns with so many rules and keys at most."""
    return [
        (columns, rules, keys)
        for many in range(most_rules + 1)
        for rules in combinations(all_rules(columns), many)
        for few in range(most_keys + 1)
        for keys in combinations(all_keys(columns), few)
    ]


def knotted(kind, depth):
    """A value nested so deep in which each part stands twice: far too large to be walked through."""
    value = kind()
    for _ in range(depth):
        value = kind([value, value])
    return value


def odd_values():
    """Values of any kind that are no schema, no table but [] and no report but ()."""
    return [
        True, False, None, 0, 1, -7, 10 ** 59, -(10 ** 3999),
        "", "a", "abc", "sort", "\u00e9", "\x00", "\ud800", "a" * 20000,
        (None,), (1, 2, 3), ("abc",), ("a", "b", "c"), ((), (), ()), ([], [], []), (("abc", (), ()),),
        (((("a",),),),), ("sort", "a"), (True,), ({},), ([],), ((),), ((), ()), tuple(range(20000)),
        {}, {"a": 1}, {"abc": (), "b": ()}, {0: "abc", 1: (), 2: ()}, {"sort": "b"},
        [None], [1, 2, 3], ["abc"], ["abc", (), ()], [[]], [()], [[1, 2, 3]], [{}], [True], list(range(20000)),
        knotted(list, 99), knotted(tuple, 99), [knotted(tuple, 98)], (knotted(list, 98), (), ()),
        (knotted(tuple, 97), knotted(tuple, 97)), ("abc", (knotted(tuple, 97),), ()), ("abc", (), knotted(list, 97)),
    ]


def other_kinds(part):
    """Values of other kinds than the part, the nearest ones among them."""
    values = [True, False, None, 5, "b", "", ["b"], [], ("b",), (), {"b": 1}, {}]
    if isinstance(part, (str, tuple, list)):
        values += [list(part), tuple(part), {at: item for at, item in enumerate(part)}]
    return [value for value in values if type(value) is not type(part)]


def replaced(value):
    """All values made from the value by a part of another kind in place of one part, at any depth."""
    for other in other_kinds(value):
        yield other
    if isinstance(value, (tuple, list)):
        kind = type(value)
        for at, part in enumerate(value):
            for other in replaced(part):
                yield value[:at] + kind([other]) + value[at + 1:]
