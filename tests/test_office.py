"""Point [18]: an office."""

import copy
import unittest
from random import Random

from openties.errors import InvalidIndex, InvalidName, InvalidReport, InvalidRow, NameInUse, OfficeFull, OpentiesError
from openties.knowledge import is_settled
from openties.office import Office
from openties.reports import is_report
from openties.runs import first_script, run
from openties.schemas import is_table
from samples import FULL, KEYED, NAMES, PLAIN, TOP, odd_values, other_kinds, replaced

RIGHT_NAMES = ["a", "z", "top", "abcdefgh", "aaaaaaaa", "zzzzzzzz"]
WRONG_NAMES = [
    "", "abcdefghi", "a" * 9, "a" * 20000, "A", "Top", "toP", "a1", "1", "0", "a b", " a", "a ", "a-b", "a_b", "a.b",
    "a\n", "\n", "`", "{", "\u00e9", "a\u00e9", "\u0430", "\u212a", "\uff41", "\x00", "\ud800", "\u00aa",
]

ROWS = [(1, 5, 7), (2, 4, 7), (3, 5, 7), (4, 5, 7)]


def filled():
    """An office with four rows and three reports."""
    office = Office(KEYED)
    for row in ROWS:
        office.insert(row)
    for name, report in (("top", TOP), ("full", FULL), ("names", NAMES)):
        office.add(name, report)
    return office


def state(office):
    return office.table(), [(name, office.report(name)) for name in office.names()]


class TestOffice(unittest.TestCase):
    def assert_raises(self, error, attribute, office, method, *arguments):
        """The call raises just this error, with this attribute, and changes nothing."""
        before = state(office)
        with self.assertRaises(OpentiesError) as caught:
            getattr(office, method)(*arguments)
        self.assertIs(type(caught.exception), error, (method, arguments))
        if attribute is not None:
            self.assertIs(getattr(caught.exception, attribute), arguments[0])
        self.assertEqual(state(office), before)

    def test_example(self):
        office = Office(KEYED)
        self.assertIsNone(office.insert((1, 5, 7)))
        self.assert_raises(InvalidRow, None, office, "insert", (2, 5, 8))
        self.assertIsNone(office.add("top", TOP))
        self.assertEqual([office.open_reports(), office.undo(), office.names()], [["top"], "add", []])

    def test_a_new_office(self):
        office = Office(KEYED)
        self.assertEqual((office.table(), office.names(), office.open_reports(), office.undo()), ([], [], [], None))

    def test_calls_return_none(self):
        office = Office(PLAIN)
        self.assertIsNone(office.insert((1, 2, 3)))
        self.assertIsNone(office.add("a", ()))
        self.assertIsNone(office.drop("a"))
        self.assertIsNone(office.delete(0))

    # insert

    def test_insert(self):
        office = Office(PLAIN)
        rows = [(3, 3, 3), (1, 1, 1), (3, 3, 3), (0, -(10 ** 59), 10 ** 59)]
        for many, row in enumerate(rows, start=1):
            office.insert(row)
            self.assertEqual(office.table(), rows[:many])

    def test_rows_that_are_no_rows(self):
        for office in (Office(PLAIN), filled()):
            for row in [(), (1,), (1, 2), (1, 2, 3, 4), [9, 5, 7], "abc", "957", None, 9, True, {0: 9, 1: 5, 2: 7},
                        (9, 5, True), (False, 5, 7), (9, None, 7), (9, "5", 7), (9, (5,), 7), ((9, 5, 7),),
                        [(9, 5, 7)]]:
                self.assert_raises(InvalidRow, None, office, "insert", row)
            for row in replaced((9, 5, 7)):
                self.assert_raises(InvalidRow, None, office, "insert", row)
        for at, row in enumerate(odd_values()):
            with self.subTest(at=at):
                if row != (1, 2, 3):
                    self.assert_raises(InvalidRow, None, Office(PLAIN), "insert", row)
                self.assert_raises(InvalidRow, None, filled(), "insert", (9, 5, row))

    def test_rows_that_break_a_rule_or_a_key(self):
        office = filled()
        for row in [(9, 5, 8), (9, 4, 8), (1, 5, 7), (4, 6, 7), (2, 9, 9)]:
            self.assert_raises(InvalidRow, None, office, "insert", row)
        for row in [(9, 5, 7), (8, 6, 7), (7, 9, 9)]:
            office.insert(row)
        self.assertEqual(office.table(), ROWS + [(9, 5, 7), (8, 6, 7), (7, 9, 9)])
        # What a deleted row forbade is allowed again.
        office.delete(0)
        office.insert((1, 9, 9))

    def test_no_more_than_twenty_rows(self):
        for schema in (PLAIN, KEYED):
            office = Office(schema)
            for at in range(20):
                office.insert((at, 1, 1))
            self.assert_raises(InvalidRow, None, office, "insert", (20, 1, 1))
            office.delete(7)
            office.insert((20, 1, 1))
            self.assert_raises(InvalidRow, None, office, "insert", (21, 1, 1))
            self.assertEqual(len(office.table()), 20)

    # delete

    def test_delete(self):
        office = filled()
        office.delete(1)
        self.assertEqual(office.table(), [ROWS[0], ROWS[2], ROWS[3]])
        office.delete(2)
        self.assertEqual(office.table(), [ROWS[0], ROWS[2]])
        office.delete(0)
        office.delete(0)
        self.assertEqual(office.table(), [])
        equal = Office(PLAIN)
        for row in [(1, 1, 1), (2, 2, 2), (1, 1, 1), (3, 3, 3)]:
            equal.insert(row)
        equal.delete(2)
        self.assertEqual(equal.table(), [(1, 1, 1), (2, 2, 2), (3, 3, 3)])

    def test_wrong_indices(self):
        for office, many in ((Office(PLAIN), 0), (filled(), 4)):
            for index in [many, many + 1, -1, -many, -many - 1, 20, 10 ** 59, -(10 ** 59), True, False, None, "0", "",
                          (0,), [0], {0: 0}, (), [], {}]:
                if index != 0 or isinstance(index, bool) or many == 0:
                    self.assert_raises(InvalidIndex, "index", office, "delete", index)
            for at, index in enumerate(odd_values()):
                with self.subTest(at=at):
                    if many == 0 or type(index) is not int or not 0 <= index < many:
                        self.assert_raises(InvalidIndex, "index", office, "delete", index)

    # add and drop

    def test_add_and_drop(self):
        office = Office(KEYED)
        for name in RIGHT_NAMES:
            office.add(name, TOP)
            self.assertEqual(office.report(name), TOP)
        self.assertEqual(office.names(), sorted(RIGHT_NAMES))
        for name in RIGHT_NAMES:
            office.drop(name)
            self.assertNotIn(name, office.names())
            self.assert_raises(InvalidName, "name", office, "drop", name)
        self.assertEqual(office.names(), [])

    def test_names_that_are_no_names(self):
        for office in (Office(PLAIN), filled()):
            for name in WRONG_NAMES + other_kinds("a") + [("t", "o", "p"), ["top"], {"top": TOP}, 116]:
                self.assert_raises(InvalidName, "name", office, "add", name, TOP)
                for method in ("drop", "report", "outcome", "is_settled"):
                    self.assert_raises(InvalidName, "name", office, method, name)
            for at, name in enumerate(odd_values()):
                with self.subTest(at=at):
                    if not isinstance(name, str) or name not in ("a", "abc", "sort"):
                        self.assert_raises(InvalidName, "name", office, "add", name, TOP)
                    for method in ("drop", "report", "outcome", "is_settled"):
                        self.assert_raises(InvalidName, "name", office, method, name)

    def test_names_of_no_report(self):
        office = filled()
        for name in ("a", "to", "topp", "ful", "nam", "eman", "insert", "abcdefgh"):
            for method in ("drop", "report", "outcome", "is_settled"):
                self.assert_raises(InvalidName, "name", office, method, name)
        office.drop("top")
        for method in ("drop", "report", "outcome", "is_settled"):
            self.assert_raises(InvalidName, "name", office, method, "top")

    def test_a_name_in_use(self):
        office = filled()
        for report in (TOP, FULL, (), None, "no report"):
            self.assert_raises(NameInUse, "name", office, "add", "top", report)
        office.drop("top")
        office.add("top", FULL)
        self.assertEqual(office.report("top"), FULL)

    def test_no_more_than_eight_reports(self):
        office = Office(PLAIN)
        for name in "abcdefgh":
            office.add(name, TOP)
        for report in (TOP, (), None, "no report"):
            with self.assertRaises(OfficeFull) as caught:
                office.add("i", report)
            self.assertEqual(caught.exception.limit, 8)
            self.assertIs(type(caught.exception.limit), int)
        self.assertEqual(office.names(), list("abcdefgh"))
        office.drop("c")
        office.add("i", FULL)
        self.assertEqual(office.names(), list("abdefghi"))
        self.assertRaises(OfficeFull, office.add, "c", TOP)

    def test_what_is_no_report(self):
        office = filled()
        for report in [None, "", (None,), [], list(TOP), (["sort", "b"],), (("sort", "d"),), (("first", True),),
                       (("count", "a"), ("first", 1)), (("first", 1), ("sort", "a")), (("where", "a", False),),
                       (("sort", "b"),) * 9, (("columns", "a"), ("sort", "b"))]:
            self.assert_raises(InvalidReport, None, office, "add", "new", report)
        for at, report in enumerate(odd_values()):
            with self.subTest(at=at):
                self.assert_raises(InvalidReport, None, office, "add", "new", report)
        # A report of another schema.
        self.assertRaises(InvalidReport, Office(("bc", (), ())).add, "a", FULL)
        Office(("bc", (), ())).add("a", TOP)

    def test_the_order_of_the_errors(self):
        office = Office(PLAIN)
        for name in "abcdefgh":
            office.add(name, TOP)
        for name in WRONG_NAMES + [None, True, ["a"]]:
            self.assert_raises(InvalidName, "name", office, "add", name, None)
        for report in (TOP, None):
            self.assert_raises(NameInUse, "name", office, "add", "a", report)
            self.assert_raises(OfficeFull, None, office, "add", "i", report)
        office.drop("h")
        self.assert_raises(NameInUse, "name", office, "add", "a", None)
        self.assert_raises(InvalidName, "name", office, "add", "", None)
        self.assert_raises(InvalidReport, None, office, "add", "i", None)
        office.add("i", TOP)

    # what it returns

    def test_names_in_ascending_order(self):
        office = Office(PLAIN)
        for name in ("b", "ba", "a", "z", "ab", "aa", "abc"):
            office.add(name, TOP)
        self.assertEqual(office.names(), ["a", "aa", "ab", "abc", "b", "ba", "z"])
        self.assertEqual(office.open_reports(), ["a", "aa", "ab", "abc", "b", "ba", "z"])

    def test_reports_and_outcomes(self):
        office = filled()
        for name, report in (("top", TOP), ("full", FULL), ("names", NAMES)):
            self.assertEqual(office.report(name), report)
            self.assertEqual(office.outcome(name), run(KEYED, report, ROWS, first_script(KEYED, report, ROWS)))
            self.assertIs(office.is_settled(name), is_settled(KEYED, report))
        self.assertEqual(office.outcome("top"), [(2, 4, 7), (1, 5, 7)])
        self.assertEqual(office.outcome("names"), [(4, 7), (5, 7)])
        self.assertEqual(office.open_reports(), ["top"])
        office.add("all", ())
        office.add("heads", (("heads", "b"),))
        self.assertEqual(office.outcome("all"), ROWS)
        self.assertEqual(office.outcome("heads"), [(2, 4, 7), (1, 5, 7)])
        self.assertEqual(office.open_reports(), ["all", "heads", "top"])
        office.delete(0)
        office.insert((1, 5, 7))
        self.assertEqual(office.outcome("top"), [(2, 4, 7), (3, 5, 7)])
        self.assertEqual(Office(KEYED).open_reports(), [])

    def test_an_outcome_of_the_empty_table(self):
        office = Office(PLAIN)
        office.add("count", (("count", "a"),))
        office.add("top", TOP)
        self.assertEqual([office.outcome("count"), office.outcome("top")], [[], []])

    # undo

    def test_undo_of_each_call(self):
        office = filled()
        before = state(office)
        for method, arguments in (("insert", [(9, 5, 7)]), ("delete", [1]), ("add", ["new", FULL]), ("drop", ["full"])):
            getattr(office, method)(*arguments)
            self.assertNotEqual(state(office), before)
            self.assertEqual(office.undo(), method)
            self.assertEqual(state(office), before)

    def test_several_in_a_row(self):
        office = Office(KEYED)
        calls = [("insert", [(1, 5, 7)]), ("add", ["top", TOP]), ("insert", [(2, 4, 7)]), ("delete", [0]),
                 ("drop", ["top"]), ("add", ["top", FULL]), ("insert", [(1, 9, 9)]), ("delete", [1]), ("delete", [0])]
        states = []
        for method, arguments in calls:
            states.append(state(office))
            getattr(office, method)(*arguments)
        for (method, _), before in reversed(list(zip(calls, states))):
            self.assertEqual(office.undo(), method)
            self.assertEqual(state(office), before)
        for _ in range(3):
            self.assertIsNone(office.undo())
        self.assertEqual(office, Office(KEYED))

    def test_undo_behind_refused_calls(self):
        office = filled()
        before = state(office)
        office.delete(2)
        for error, method, arguments in [
            (InvalidRow, "insert", [(9, 5, 8)]),
            (InvalidIndex, "delete", [3]),
            (InvalidName, "add", ["", TOP]),
            (NameInUse, "add", ["top", TOP]),
            (InvalidReport, "add", ["new", None]),
            (InvalidName, "drop", ["new"]),
            (InvalidName, "report", ["new"]),
            (InvalidName, "outcome", ["new"]),
            (InvalidName, "is_settled", ["new"]),
        ]:
            self.assertRaises(error, getattr(office, method), *arguments)
        self.assertEqual(office.undo(), "delete")
        self.assertEqual(state(office), before)
        self.assertEqual(office.undo(), "add")

    def test_undo_behind_an_undo(self):
        office = Office(PLAIN)
        office.insert((1, 1, 1))
        office.insert((2, 2, 2))
        self.assertEqual(office.undo(), "insert")
        office.add("top", TOP)
        self.assertEqual(office.undo(), "add")
        self.assertEqual(office.table(), [(1, 1, 1)])
        office.delete(0)
        self.assertEqual([office.undo(), office.table()], ["delete", [(1, 1, 1)]])
        self.assertEqual([office.undo(), office.table()], ["insert", []])
        self.assertIsNone(office.undo())

    def test_undo_of_a_delete_keeps_the_order(self):
        for index in range(4):
            office = filled()
            office.delete(index)
            self.assertEqual(office.table(), ROWS[:index] + ROWS[index + 1:])
            self.assertEqual(office.undo(), "delete")
            self.assertEqual(office.table(), ROWS)
            self.assertEqual(office.outcome("top"), [(2, 4, 7), (1, 5, 7)])

    def test_calls_that_only_return_are_not_undone(self):
        office = filled()
        office.insert((9, 5, 7))
        office.table(), office.names(), office.report("top"), office.outcome("top")
        office.is_settled("top"), office.open_reports(), office == Office(KEYED)
        self.assertEqual(office.undo(), "insert")

    def test_undo_makes_room_again(self):
        office = Office(PLAIN)
        for at in range(20):
            office.insert((at, 0, 0))
        self.assertEqual(office.undo(), "insert")
        office.insert((20, 0, 0))
        for name in "abcdefgh":
            office.add(name, ())
        self.assertEqual(office.undo(), "add")
        office.add("z", ())
        office.drop("a")
        self.assertEqual(office.undo(), "drop")
        self.assertRaises(OfficeFull, office.add, "y", ())
        self.assertRaises(NameInUse, office.add, "a", ())

    def test_many_calls_against_plain_states(self):
        random = Random(71)
        for schema in (PLAIN, KEYED):
            office, history, table, reports = Office(schema), [], [], {}
            for _ in range(1500):
                method = random.choice(["insert"] * 4 + ["delete", "add", "add", "drop", "undo"])
                before = (method, list(table), dict(reports))
                if method == "undo":
                    name, table, reports = history.pop() if history else (None, table, reports)
                    self.assertEqual(office.undo(), name)
                elif method == "insert":
                    row = (random.randint(0, 30), random.randint(0, 9), random.randint(0, 3))
                    if len(table) < 20 and is_table(schema, table + [row]):
                        office.insert(row)
                        table = table + [row]
                        history.append(before)
                    else:
                        self.assertRaises(InvalidRow, office.insert, row)
                elif method == "delete":
                    index = random.randint(-1, 12)
                    if 0 <= index < len(table):
                        office.delete(index)
                        table = table[:index] + table[index + 1:]
                        history.append(before)
                    else:
                        self.assertRaises(InvalidIndex, office.delete, index)
                elif method == "add":
                    name = random.choice("abcdefghijk") * random.choice([1, 1, 1, 9])
                    report = random.choice([TOP, FULL, NAMES, (("first", 21),)])
                    error = (InvalidName if len(name) > 8 else NameInUse if name in reports else
                             OfficeFull if len(reports) == 8 else None if is_report(schema, report) else InvalidReport)
                    if error is None:
                        office.add(name, report)
                        reports = {**reports, name: report}
                        history.append(before)
                    else:
                        self.assertRaises(error, office.add, name, report)
                else:
                    name = random.choice("abcdefghijk")
                    if name in reports:
                        office.drop(name)
                        reports = {other: reports[other] for other in reports if other != name}
                        history.append(before)
                    else:
                        self.assertRaises(InvalidName, office.drop, name)
                self.assertEqual(state(office), (table, sorted(reports.items())))

    # what the caller keeps and changes

    def test_returned_lists_may_be_changed(self):
        office = filled()
        before = state(office)
        for method, arguments in (("table", []), ("names", []), ("outcome", ["top"]), ("open_reports", [])):
            found = getattr(office, method)(*arguments)
            kept = copy.deepcopy(found)
            found.append("changed")
            found[0] = None
            self.assertEqual(getattr(office, method)(*arguments), kept, method)
            found.clear()
            self.assertEqual(getattr(office, method)(*arguments), kept, method)
        self.assertEqual(state(office), before)
        table = office.table()
        office.delete(0)
        table.clear()
        self.assertEqual(office.undo(), "delete")
        self.assertEqual(state(office), before)

    def test_arguments_are_neither_changed_nor_kept(self):
        office = Office(KEYED)
        row, report = [1, 5, 7], [["sort", "b"], ["first", 2]]
        self.assertRaises(InvalidRow, office.insert, row)
        self.assertRaises(InvalidReport, office.add, "top", report)
        self.assertEqual((row, report), ([1, 5, 7], [["sort", "b"], ["first", 2]]))
        office.insert(tuple(row))
        office.add("top", tuple(tuple(step) for step in report))
        row[0] = report[0][1] = "changed"
        report.clear()
        self.assertEqual(state(office), ([(1, 5, 7)], [("top", TOP)]))
        table = office.table()
        other = Office(KEYED)
        for part in table:
            other.insert(part)
        table.append((9, 9, 9))
        self.assertEqual(other.table(), [(1, 5, 7)])

    def test_two_offices_do_not_share_anything(self):
        one, other = Office(PLAIN), Office(PLAIN)
        one.insert((1, 1, 1))
        one.add("top", TOP)
        self.assertEqual(state(other), ([], []))
        self.assertIsNone(other.undo())
        self.assertEqual(one.undo(), "add")


class TestEquality(unittest.TestCase):
    def assert_equal(self, one, other, expected):
        for left, right in ((one, other), (other, one)):
            self.assertIs(left == right, expected)
            self.assertIs(left != right, not expected)

    def test_equal_offices(self):
        self.assert_equal(Office(PLAIN), Office(PLAIN), True)
        self.assert_equal(Office(PLAIN), Office(("abc", (), ())), True)
        self.assert_equal(filled(), filled(), True)
        office = filled()
        self.assert_equal(office, office, True)

    def test_the_way_to_a_state_does_not_matter(self):
        office = filled()
        office.insert((9, 5, 7))
        office.delete(4)
        office.drop("full")
        office.add("full", FULL)
        self.assert_equal(office, filled(), True)
        office.undo()
        self.assert_equal(office, filled(), False)
        office.undo()
        self.assert_equal(office, filled(), True)
        one, other = Office(PLAIN), Office(PLAIN)
        one.add("a", TOP)
        one.add("b", FULL)
        other.add("b", FULL)
        other.add("a", TOP)
        self.assert_equal(one, other, True)

    def test_offices_that_differ(self):
        # The schema.
        self.assert_equal(Office(PLAIN), Office(KEYED), False)
        self.assert_equal(Office(PLAIN), Office(("ab", (), ())), False)
        self.assert_equal(Office(("abc", (), ("a", "b"))), Office(("abc", (), ("b", "a"))), False)
        self.assert_equal(Office(KEYED), Office(("abc", (("ab", "c"), ("b", "c")), ("a", "ab"))), False)
        # A row.
        office = filled()
        office.insert((9, 5, 7))
        self.assert_equal(office, filled(), False)
        office = filled()
        office.delete(3)
        self.assert_equal(office, filled(), False)
        office.insert((4, 5 + 1, 7))
        self.assert_equal(office, filled(), False)
        # The order of the rows.
        one, other = Office(PLAIN), Office(PLAIN)
        for row in ((1, 1, 1), (2, 2, 2)):
            one.insert(row)
        for row in ((2, 2, 2), (1, 1, 1)):
            other.insert(row)
        self.assert_equal(one, other, False)
        # A name, a report.
        for name, report in (("tip", TOP), ("top", FULL)):
            office = filled()
            office.drop("top")
            self.assert_equal(office, filled(), False)
            office.add(name, report)
            self.assert_equal(office, filled(), False)
        office = filled()
        office.add("more", TOP)
        self.assert_equal(office, filled(), False)

    def test_other_values(self):
        class Other:
            def __init__(self):
                self._schema, self._table, self._reports, self._history = PLAIN, [], {}, []

        for office in (Office(PLAIN), filled()):
            for value in [*odd_values(), Other(), Office, PLAIN, KEYED, [], office.table(), object(), state(office)]:
                self.assert_equal(office, value, False)
            self.assertNotIn(office, [[], (), None, 0])
            self.assertIn(office, [None, office])
