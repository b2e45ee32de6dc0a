"""The interface's paragraph on errors."""

import unittest

from openties import errors
from openties.errors import (
    InvalidIndex,
    InvalidName,
    InvalidReport,
    InvalidRow,
    InvalidScript,
    NameInUse,
    NoRun,
    NoTable,
    OfficeFull,
    OpentiesError,
)
from samples import knotted

WITH_ATTRIBUTE = ((InvalidIndex, "index"), (InvalidName, "name"), (NameInUse, "name"), (OfficeFull, "limit"))
WITH_MESSAGE = (NoTable, InvalidScript, NoRun, InvalidRow, InvalidReport)
ALL = tuple(one for one, _ in WITH_ATTRIBUTE) + WITH_MESSAGE


class TestErrors(unittest.TestCase):
    def test_each_is_a_direct_subclass_and_of_no_other_class(self):
        self.assertEqual(OpentiesError.__bases__, (ValueError,))
        for one in ALL:
            self.assertEqual(one.__bases__, (OpentiesError,), one)
            error = one("x")
            self.assertIsInstance(error, ValueError)
            for other in ALL:
                self.assertEqual(isinstance(error, other), one is other, (one, other))

    def test_there_are_no_other_errors(self):
        found = {one for one in vars(errors).values() if isinstance(one, type)}
        self.assertEqual(found, {OpentiesError, *ALL})

    def test_the_attribute_is_the_argument(self):
        values = [0, -1, 8, 10 ** 4000, True, None, "", "top", "a" * 20000, (1, "a"), [1, [2]], {"a": 1},
                  knotted(tuple, 99), knotted(list, 99)]
        for one, attribute in WITH_ATTRIBUTE:
            for at, value in enumerate(values):
                with self.subTest(error=one, at=at):
                    # No assertIs: its message would print the value, and some are too large for that.
                    self.assertTrue(getattr(one(value), attribute) is value)

    def test_each_object_has_an_attribute_of_its_own(self):
        first, second = InvalidIndex(1), InvalidIndex(2)
        self.assertEqual((first.index, second.index), (1, 2))

    def test_no_other_attribute(self):
        for one, attribute in WITH_ATTRIBUTE:
            self.assertEqual(list(vars(one("x"))), [attribute], one)

    def test_a_message_is_shown(self):
        for one in WITH_MESSAGE:
            self.assertEqual(str(one("so it is")), "so it is", one)

    def test_they_are_raised_and_caught(self):
        for one in ALL:
            for caught in (one, OpentiesError, ValueError):
                with self.assertRaises(caught):
                    raise one("x")
