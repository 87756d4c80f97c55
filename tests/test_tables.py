import copy
import unittest

from hushgrain.errors import (
    BadSchema, BadTags, Duplicate, HushError, TooMany, UnknownColumn, UnknownDay, UnknownRow, UnknownTable,
)
from hushgrain.tables import Tables
from support import ODD_THINGS, frozen

RESERVED = "select sum count from at day as where by and or not in".split()
GOOD_NAMES = ("a", "z", "abcdefghijkl", "a_", "a0", "a_9z", "id", "selects", "counts", "sumx", "n")
BAD_NAMES = [
    "", "A", "aB", "_a", "0a", "a b", " a", "a ", "a-b", "a.b", "abcdefghijklm", "a\n", "a\t", "\ta",
    "a\"", "`", "{", "a@", "a[", "a`", "a{", "a/", "a:", *RESERVED,
    None, True, False, 0, 1, (), [], ("a",), ["a"], [["a"]],
]
GOOD_WORDS = ("", " ", "~", "twelve chars", "A-z_09.!", "'", "id", "select")
BAD_WORDS = ("thirteen char", "a\"b", "\"", "a\nb", "\t", None, True, False, 0, 5, (), [], ("a",), ["a"])
GOOD_INTEGERS = (0, 1, -1, 999999, -999999)
BAD_INTEGERS = (1000000, -1000000, 10 ** 29, True, False, None, "", "1", (), [], (1,), [1])


def state(tables):
    """Everything that a Tables object shows of itself."""
    shown = [tables.cells(), tables.day()]
    for name in ("staff", "other", "third", "t"):
        for day in range(tables.day() + 1):
            try:
                shown.append((name, day, tables.rows(name, day)))
            except UnknownTable:
                shown.append((name, day))
        try:
            shown.append(tables.schema(name))
        except UnknownTable:
            shown.append(None)
    return shown


class TablesTest(unittest.TestCase):
    def setUp(self):
        self.tables = Tables()
        self.tables.add_table("staff", (("dept", "word"),), ("pay",))
        self.tables.add_row("staff", ("ops",))

    def wide(self):
        """A table with several columns of each kind, and some rows."""
        self.tables.add_table("other", (("a", "int"), ("w", "word"), ("b", "int")), ("x", "y"))
        self.tables.add_row("other", (1, "one", -1))
        self.tables.add_row("other", (2, "two", -2))

    def fails(self, error, fields, call, *arguments, **named):
        """The call raises this error and changes nothing."""
        before, twin = state(self.tables), self.tables.copy()
        given = copy.deepcopy((arguments, named))
        with self.assertRaises(error) as caught:
            call(*arguments, **named)
        self.assertIsInstance(caught.exception, HushError)
        self.assertEqual(repr(vars(caught.exception)), repr(fields))
        self.assertEqual(state(self.tables), before)
        self.assertTrue(self.tables == twin)
        self.assertEqual(repr((arguments, named)), repr(given))


class AddTableTest(TablesTest):
    def bad(self, part, name, tags, closed):
        self.fails(BadSchema, {"part": part}, self.tables.add_table, name, tags, closed)

    def test_new_tables(self):
        made = Tables()
        self.assertEqual((made.cells(), made.day()), (0, 0))
        self.assertIsNone(made.add_table("t", (), ("x",)))
        self.assertIsNone(made.add_table(closed=["x", "y"], tags=[["a", "int"]], name="u"))
        self.assertEqual(made.rows("t"), [])
        self.assertEqual(made.schema("t"), ((), ("x",)))
        self.assertEqual(made.schema("u"), ((("a", "int"),), ("x", "y")))
        self.assertEqual((made.cells(), made.day()), (0, 0))

    def test_good_names(self):
        made = Tables()
        for name in GOOD_NAMES:
            made.add_table(name, (), ("x",))
            self.assertEqual(made.rows(name), [])
        for name in GOOD_NAMES:
            if name != "id":
                fresh = Tables()
                fresh.add_table("t", ((name, "int"),), ("x",))
                fresh.add_table("u", (), (name,))
                self.assertEqual(fresh.schema("t"), (((name, "int"),), ("x",)))
                self.assertEqual(fresh.schema("u"), ((), (name,)))

    def test_bad_name(self):
        for name in BAD_NAMES:
            self.bad("name", name, (), ("x",))
            self.bad("name", name, None, None)

    def test_bad_tags(self):
        for name in BAD_NAMES + ["id"]:
            self.bad("tags", "t", ((name, "int"),), ("x",))
            self.bad("tags", "t", [["a", "int"], [name, "word"]], ("x",))
        for kind in ("integer", "", "Int", "words", None, True, 0, (), [], ("int",), ["word"]):
            self.bad("tags", "t", (("a", kind),), ("x",))
        self.bad("tags", "t", (("a", "int"), ("a", "int")), ("x",))
        self.bad("tags", "t", (("a", "int"), ("b", "int"), ("a", "word")), ("x",))
        five = tuple((name, "int") for name in "abcde")
        self.bad("tags", "t", five, ("x",))
        for thing in (None, True, 0, "", "ab", "a", ("a",), ("ab",), (("a", "int", "b"),), (("a",),), ((),),
                      (None,), (1,), ["int"], (("a", "int"), "ab"), (("a", "int"), None), [["a"]]):
            self.bad("tags", "t", thing, ("x",))
            self.bad("tags", "t", thing, None)
        Tables().add_table("t", five[:4], ("x",))

    def test_bad_closed(self):
        tags = (("a", "int"), ("b", "word"))
        for name in BAD_NAMES + ["id", "a", "b"]:
            self.bad("closed", "t", tags, (name,))
            self.bad("closed", "t", list(tags), ["x", name])
        for thing in (None, True, 0, 1, "", "x", "xy", (), [], ("x", "x"), ("x", "y", "x"), tuple("vwxyz")):
            self.bad("closed", "t", tags, thing)
        Tables().add_table("t", tags, tuple("wxyz"))

    def test_the_first_invalid_part(self):
        self.bad("name", "T", (("id", "int"),), ())
        self.bad("tags", "staff", (("id", "int"),), ())
        self.bad("closed", "staff", (), ())
        self.fails(Duplicate, {"name": "staff"}, self.tables.add_table, "staff", (), ("x",))
        self.fails(Duplicate, {"name": "staff"}, self.tables.add_table, "staff", (("dept", "word"),), ("pay",))

    def test_later_changes_have_no_effect(self):
        tags, closed = [["a", "int"], ["b", "word"]], ["x", "y"]
        self.tables.add_table("t", tags, closed)
        self.assertEqual((tags, closed), ([["a", "int"], ["b", "word"]], ["x", "y"]))
        tags[0][0] = "q"
        tags.pop()
        closed[0] = "q"
        wanted = ((("a", "int"), ("b", "word")), ("x", "y"))
        self.assertEqual(repr(self.tables.schema("t")), repr(wanted))
        self.assertEqual(repr(self.tables.schema(table="t")), repr(wanted))


class AddRowTest(TablesTest):
    def test_example(self):
        made = Tables()
        made.add_table("staff", (("dept", "word"),), ("pay",))
        self.assertEqual(made.add_row("staff", ("ops",)), 1)
        self.assertEqual(made.cells(), 1)
        self.assertEqual(made.rows("staff"), [(1, ("ops",), ((0, 0),))])

    def test_rows_and_cells(self):
        self.wide()
        self.assertEqual(self.tables.add_row(tags=["hr"], table="staff"), 2)
        self.assertEqual(self.tables.cells(), 6)
        self.assertEqual(self.tables.rows("staff"), [(1, ("ops",), ((0, 0),)), (2, ("hr",), ((5, 0),))])
        wanted = [(1, (1, "one", -1), ((1, 0), (2, 0))), (2, (2, "two", -2), ((3, 0), (4, 0)))]
        self.assertEqual(repr(self.tables.rows("other")), repr(wanted))

    def test_unknown_table(self):
        for name in ("stuff", "", "STAFF", "select"):
            self.fails(UnknownTable, {"name": name}, self.tables.add_row, name, ("ops",))
            self.fails(UnknownTable, {"name": name}, self.tables.add_row, name, ())

    def test_tags_of_both_kinds(self):
        made = Tables()
        made.add_table("t", (("a", "int"), ("w", "word")), ("x",))
        count = 0
        for number in GOOD_INTEGERS[:3]:
            for word in GOOD_WORDS[:4]:
                count += 1
                self.assertEqual(made.add_row("t", (number, word)), count)
        for number, word in zip(GOOD_INTEGERS * 2, GOOD_WORDS):
            made = Tables()
            made.add_table("t", (("a", "int"), ("w", "word")), ("x",))
            made.add_row("t", (number, word))
            self.assertEqual(made.rows("t"), [(1, (number, word), ((0, 0),))])

    def test_bad_tags(self):
        self.wide()
        add = self.tables.add_row
        for word in BAD_WORDS:
            self.fails(BadTags, {"position": 0}, add, "staff", (word,))
            self.fails(BadTags, {"position": 1}, add, "other", [1, word, 1])
        for number in BAD_INTEGERS:
            self.fails(BadTags, {"position": 0}, add, "other", (number, "w", 1))
            self.fails(BadTags, {"position": 2}, add, "other", [1, "w", number])
        self.fails(BadTags, {"position": 0}, add, "other", (None, None, None, None))
        self.fails(BadTags, {"position": 1}, add, "other", (1, None, None))

    def test_tags_missing_or_too_many(self):
        self.wide()
        add = self.tables.add_row
        self.fails(BadTags, {"position": 0}, add, "staff", ())
        self.fails(BadTags, {"position": 1}, add, "staff", ("ops", "ops"))
        self.fails(BadTags, {"position": 1}, add, "staff", ("ops", None, None))
        self.fails(BadTags, {"position": 0}, add, "staff", (1, None))
        self.fails(BadTags, {"position": 0}, add, "other", [])
        self.fails(BadTags, {"position": 1}, add, "other", [1])
        self.fails(BadTags, {"position": 2}, add, "other", (1, "w"))
        self.fails(BadTags, {"position": 3}, add, "other", (1, "w", 1, 1))
        self.fails(BadTags, {"position": 2}, add, "other", (1, "w", "w", 1))
        self.tables.add_table("t", (), ("x",))
        self.fails(BadTags, {"position": 0}, add, "t", (None,))
        self.assertEqual(add("t", ()), 1)

    def test_too_many_cells(self):
        for row in range(2, 12):
            self.assertEqual(self.tables.add_row("staff", ("ops",)), row)
        self.tables.add_table("t", (("a", "int"),), ("x", "y"))
        self.fails(TooMany, {"kind": "cell"}, self.tables.add_row, "t", (1,))
        self.fails(BadTags, {"position": 0}, self.tables.add_row, "t", ("a",))
        self.fails(BadTags, {"position": 1}, self.tables.add_row, "t", (1, 1))
        self.assertEqual(self.tables.add_row("staff", ("ops",)), 12)
        self.assertEqual(self.tables.cells(), 12)
        self.fails(TooMany, {"kind": "cell"}, self.tables.add_row, "staff", ("ops",))
        self.fails(UnknownTable, {"name": "u"}, self.tables.add_row, "u", ("ops",))
        self.fails(BadTags, {"position": 0}, self.tables.add_row, "staff", ())

    def test_ids_are_not_used_again(self):
        self.assertEqual(self.tables.add_row("staff", ("hr",)), 2)
        self.tables.remove_row("staff", 2)
        self.assertEqual(self.tables.add_row("staff", ("it",)), 3)
        self.tables.remove_row("staff", 1)
        self.tables.remove_row("staff", 3)
        self.assertEqual(self.tables.rows("staff"), [])
        self.assertEqual(self.tables.add_row("staff", ("hr",)), 4)
        self.assertEqual(self.tables.rows("staff"), [(4, ("hr",), ((3, 0),))])
        self.assertEqual(self.tables.cells(), 4)
        # An attempt that fails takes no id.
        self.fails(BadTags, {"position": 0}, self.tables.add_row, "staff", (1,))
        self.assertEqual(self.tables.add_row("staff", ("hr",)), 5)

    def test_later_changes_have_no_effect(self):
        tags = ["hr"]
        self.tables.add_row("staff", tags)
        tags[0] = "it"
        self.assertEqual(repr(self.tables.rows("staff")[1]), repr((2, ("hr",), ((1, 0),))))


NO_ROWS = (0, 2, -1, 10 ** 30, True, False, None, "", "1", (), [], (1,), [1], [[1]])


class ChangesTest(TablesTest):
    def test_remove_row(self):
        self.wide()
        self.assertIsNone(self.tables.remove_row("other", 1))
        self.assertEqual(self.tables.rows("other"), [(2, (2, "two", -2), ((3, 0), (4, 0)))])
        self.assertIsNone(self.tables.remove_row(row=2, table="other"))
        self.assertEqual(self.tables.rows("other"), [])
        self.assertEqual(self.tables.cells(), 5)
        self.fails(UnknownRow, {"row": 1}, self.tables.remove_row, "other", 1)

    def test_set_tag(self):
        self.wide()
        self.assertIsNone(self.tables.set_tag("other", 2, "w", ""))
        self.assertIsNone(self.tables.set_tag(tag=-999999, column="b", row=2, table="other"))
        wanted = [(1, (1, "one", -1), ((1, 0), (2, 0))), (2, (2, "", -999999), ((3, 0), (4, 0)))]
        self.assertEqual(self.tables.rows("other"), wanted)
        for word in GOOD_WORDS:
            self.tables.set_tag("staff", 1, "dept", word)
            self.assertEqual(self.tables.rows("staff"), [(1, (word,), ((0, 0),))])

    def test_bad_tags(self):
        self.wide()
        for word in BAD_WORDS:
            self.fails(BadTags, {"position": 0}, self.tables.set_tag, "other", 1, "w", word)
        for number in BAD_INTEGERS:
            self.fails(BadTags, {"position": 0}, self.tables.set_tag, "other", 1, "b", number)

    def test_shift(self):
        self.wide()
        self.assertIsNone(self.tables.shift("other", 1, "y", 5))
        self.assertIsNone(self.tables.shift(amount=-10 ** 29, column="y", row=1, table="other"))
        self.assertIsNone(self.tables.shift("other", 2, "x", 0))
        self.assertIsNone(self.tables.shift("other", 1, "x", -3))
        wanted = [
            (1, (1, "one", -1), ((1, -3), (2, 5 - 10 ** 29))),
            (2, (2, "two", -2), ((3, 0), (4, 0))),
        ]
        self.assertEqual(self.tables.rows("other"), wanted)
        self.assertEqual(self.tables.cells(), 5)

    def test_change(self):
        self.assertEqual(self.tables.change("staff", 1, "pay"), (0, 1))
        self.assertEqual(self.tables.rows("staff"), [(1, ("ops",), ((1, 0),))])
        self.wide()
        self.tables.shift("other", 1, "y", 5)
        self.tables.shift("other", 1, "x", 7)
        self.assertEqual(self.tables.change(column="y", row=1, table="other"), (3, 6))
        wanted = [(1, (1, "one", -1), ((2, 7), (6, 0))), (2, (2, "two", -2), ((4, 0), (5, 0)))]
        self.assertEqual(self.tables.rows("other"), wanted)
        self.assertEqual(self.tables.change("other", 1, "y"), (6, 7))
        self.assertEqual(self.tables.cells(), 8)

    def test_change_with_too_many_cells(self):
        for cell in range(11):
            self.assertEqual(self.tables.change("staff", 1, "pay"), (cell, cell + 1))
        self.fails(TooMany, {"kind": "cell"}, self.tables.change, "staff", 1, "pay")
        self.fails(UnknownColumn, {"column": "dept"}, self.tables.change, "staff", 1, "dept")
        self.fails(UnknownRow, {"row": 2}, self.tables.change, "staff", 2, "pay")
        self.tables.shift("staff", 1, "pay", 1)
        self.assertEqual(self.tables.rows("staff"), [(1, ("ops",), ((11, 1),))])

    def test_unknown_table(self):
        for name in ("stuff", "", "pay"):
            fields = {"name": name}
            self.fails(UnknownTable, fields, self.tables.remove_row, name, None)
            self.fails(UnknownTable, fields, self.tables.set_tag, name, None, "x", None)
            self.fails(UnknownTable, fields, self.tables.shift, name, None, "x", 1)
            self.fails(UnknownTable, fields, self.tables.change, name, None, "x")
            self.fails(UnknownTable, fields, self.tables.schema, name)
            self.fails(UnknownTable, fields, self.tables.rows, name)

    def test_unknown_row(self):
        for row in NO_ROWS:
            fields = {"row": frozen(row)}
            self.fails(UnknownRow, fields, self.tables.remove_row, "staff", row)
            self.fails(UnknownRow, fields, self.tables.set_tag, "staff", row, "x", None)
            self.fails(UnknownRow, fields, self.tables.shift, "staff", row, "x", 1)
            self.fails(UnknownRow, fields, self.tables.change, "staff", row, "x")

    def test_unknown_column(self):
        for column in ("id", "pay", "", "depts"):
            self.fails(UnknownColumn, {"column": column}, self.tables.set_tag, "staff", 1, column, None)
        for column in ("id", "dept", "", "pays"):
            self.fails(UnknownColumn, {"column": column}, self.tables.shift, "staff", 1, column, 1)
            self.fails(UnknownColumn, {"column": column}, self.tables.change, "staff", 1, column)


class DaysTest(TablesTest):
    def test_snapshots_stay(self):
        self.wide()
        first = [(1, ("ops",), ((0, 0),))]
        self.assertEqual(self.tables.next_day(), 1)
        self.assertEqual(self.tables.day(), 1)
        self.tables.set_tag("staff", 1, "dept", "hr")
        self.tables.shift("staff", 1, "pay", 9)
        second = [(1, ("hr",), ((0, 9),))]
        self.assertEqual(self.tables.rows("staff"), second)
        self.assertEqual(self.tables.rows("staff", 1), second)
        self.assertEqual(self.tables.rows("staff", 0), first)
        self.assertEqual(self.tables.next_day(), 2)
        self.tables.change("staff", 1, "pay")
        self.tables.remove_row("other", 1)
        self.tables.add_row("staff", ("it",))
        self.assertEqual(self.tables.rows("staff", 0), first)
        self.assertEqual(self.tables.rows("staff", 1), second)
        third = [(1, ("hr",), ((5, 0),)), (2, ("it",), ((6, 0),))]
        self.assertEqual(self.tables.rows(day=2, table="staff"), third)
        self.assertEqual(self.tables.rows("staff", None), third)
        self.assertEqual([row[0] for row in self.tables.rows("other", 0)], [1, 2])
        self.assertEqual([row[0] for row in self.tables.rows("other", 1)], [1, 2])
        self.assertEqual([row[0] for row in self.tables.rows("other", 2)], [2])

    def test_unknown_day(self):
        self.tables.next_day()
        for day in (2, -1, 7, 8, 10 ** 30, True, False, "", "0", (), [], (0,), [0], [[0]]):
            fields = {"number": frozen(day)}
            self.fails(UnknownDay, fields, self.tables.rows, "staff", day)
            self.fails(UnknownDay, fields, self.tables.rows, "stuff", day)
            self.fails(UnknownDay, fields, self.tables.rows, day=day, table="stuff")

    def test_tables_of_a_later_day(self):
        self.tables.next_day()
        self.tables.add_table("t", (), ("x",))
        self.assertEqual(self.tables.rows("t", 1), [])
        self.fails(UnknownTable, {"name": "t"}, self.tables.rows, "t", 0)
        self.tables.next_day()
        self.assertEqual(self.tables.rows("t", 1), [])
        self.fails(UnknownTable, {"name": "t"}, self.tables.rows, "t", 0)
        self.fails(UnknownTable, {"name": "u"}, self.tables.rows, "u", 2)

    def test_too_many_days(self):
        for day in range(1, 8):
            self.assertEqual(self.tables.next_day(), day)
        self.fails(TooMany, {"kind": "day"}, self.tables.next_day)
        self.assertEqual(self.tables.day(), 7)
        for day in range(8):
            self.assertEqual(self.tables.rows("staff", day), [(1, ("ops",), ((0, 0),))])

    def test_returned_lists_are_new(self):
        self.tables.next_day()
        for day in (None, 0, 1):
            rows = self.tables.rows("staff", day)
            self.assertIsInstance(rows, list)
            rows.append("changed")
            rows[0] = None
            self.assertEqual(self.tables.rows("staff", day), [(1, ("ops",), ((0, 0),))])


class ComparingTest(TablesTest):
    def test_copy_is_independent(self):
        self.wide()
        self.tables.next_day()
        self.tables.set_tag("staff", 1, "dept", "hr")
        changes = [
            lambda made: made.add_table("t", (), ("x",)),
            lambda made: made.add_row("staff", ("it",)),
            lambda made: made.remove_row("other", 2),
            lambda made: made.set_tag("staff", 1, "dept", "it"),
            lambda made: made.shift("staff", 1, "pay", 1),
            lambda made: made.change("staff", 1, "pay"),
            lambda made: made.next_day(),
        ]
        for change in changes:
            for first in (True, False):
                one = self.tables.copy()
                self.assertIsInstance(one, Tables)
                other = one.copy()
                self.assertTrue(one == other and not one != other)
                before = state(self.tables)
                changed, same = (one, other) if first else (other, one)
                change(changed)
                self.assertEqual(state(same), before)
                self.assertEqual(state(self.tables), before)
                self.assertFalse(changed == same or same == changed)
                self.assertTrue(changed != same)
                change(same)
                self.assertTrue(changed == same)
                self.assertEqual(state(changed), state(same))

    def test_order_of_tables_does_not_count(self):
        one, other = Tables(), Tables()
        names = ("a", "b", "c")
        for made, order in ((one, names), (other, names[::-1])):
            for name in order:
                made.add_table(name, (("k", "int"),), ("x",))
            for name in names:
                made.add_row(name, (1,))
            made.next_day()
        self.assertTrue(one == other)
        self.assertFalse(one != other)

    def test_what_counts(self):
        def made(*steps):
            tables = Tables()
            tables.add_table("t", (("k", "int"), ("w", "word")), ("x",))
            tables.add_row("t", (1, "a"))
            for step in steps:
                step(tables)
            return tables

        def add(tables):
            tables.add_row("t", (2, "b"))

        def drop(tables):
            tables.remove_row("t", 2)

        def day(tables):
            tables.next_day()

        def tag(tables):
            tables.set_tag("t", 1, "w", "z")

        def back(tables):
            tables.set_tag("t", 1, "w", "a")

        def shift(tables):
            tables.shift("t", 1, "x", 1)

        def unshift(tables):
            tables.shift("t", 1, "x", -1)

        def table(tables):
            tables.add_table("u", (), ("x",))

        self.assertTrue(made() == made())
        self.assertTrue(made(tag, back, shift, unshift) == made())
        self.assertTrue(made(tag, day, table) == made(tag, day, table))
        different = [
            made(), made(tag), made(shift), made(add), made(add, drop), made(add, drop, add), made(day),
            made(day, day), made(tag, day, back), made(shift, day, unshift), made(add, day, drop),
            made(add, drop, day), made(table), made(table, day), made(day, table), made(tag, day),
            made(day, tag),
        ]
        for i, one in enumerate(different):
            for j, other in enumerate(different):
                self.assertIs(one == other, i == j, (i, j))
                self.assertIs(one != other, i != j, (i, j))

    def test_schemas_count(self):
        schemas = [
            ((), ("x",)), ((), ("y",)), ((), ("x", "y")), ((("a", "int"),), ("x",)),
            ((("a", "word"),), ("x",)), ((("b", "int"),), ("x",)),
        ]
        for one in schemas:
            for other in schemas:
                left, right = Tables(), Tables()
                left.add_table("t", *one)
                right.add_table("t", *other)
                self.assertIs(left == right, one == other)

    def test_next_ids_count(self):
        # The same rows and cells, but other ids to come.
        one, other = Tables(), Tables()
        for made, name in ((one, "t"), (other, "u")):
            made.add_table("t", (), ("x",))
            made.add_table("u", (), ("x",))
            made.add_row(name, ())
            made.remove_row(name, 1)
        self.assertEqual(one.rows("t"), other.rows("t"))
        self.assertEqual(one.cells(), other.cells())
        self.assertFalse(one == other)

    def test_cells_count(self):
        # The same rows and ids to come, but one of them has had one more cell.
        one, other = self.tables.copy(), self.tables.copy()
        other.change("staff", 1, "pay")
        for made in (one, other):
            made.remove_row("staff", 1)
        self.assertEqual(one.rows("staff"), other.rows("staff"))
        self.assertFalse(one == other)

    def test_no_other_object(self):
        for thing in ODD_THINGS + ({}, object(), Tables, self.tables.rows("staff")):
            self.assertFalse(self.tables == thing)
            self.assertTrue(self.tables != thing)
            self.assertFalse(Tables() == thing)


if __name__ == "__main__":
    unittest.main()
