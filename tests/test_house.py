"""The state of a house: tables, readers, groups, secrets, reservations."""

import copy
import unittest

from hushgrain.errors import (
    BadForm, BadGroup, BadMargin, BadModulus, BadName, BadSchema, BadTags, BadValues, Duplicate, Exposed, HushError,
    NotSingle, QueryError, QuerySyntax, TooMany, UnknownColumn, UnknownGroup, UnknownReader,
    UnknownReservation, UnknownRow, UnknownSecret, UnknownTable,
)
from hushgrain.guards import holds, keep_witness
from hushgrain.house import House
from hushgrain.knowledge import Knowledge
from hushgrain.tables import Tables
from houses import sample, state
from support import ODD_THINGS, frozen

BAD_NAMES = ("", "Ann", "1a", "_a", "a b", "abcdefghijklm", "select", "not", "a\n", None, True, 7, (), ["ann"], ("ann",))
ONE = "select sum(pay) from staff where id = 1"
TWO = "select sum(pay) from staff where id = 2"
ALL = "select sum(pay) from staff"


class HouseTest(unittest.TestCase):
    def setUp(self):
        self.house = sample()

    def fails(self, error, fields, call, *arguments, **named):
        """The call raises this error and changes nothing."""
        before, given = state(self.house), repr((arguments, named))
        for _ in range(2):
            with self.assertRaises(HushError) as caught:
                call(*arguments, **named)
            self.assertIs(caught.exception.__class__, error, caught.exception)
            self.assertEqual(repr(vars(caught.exception)), repr(fields))
        self.assertEqual(state(self.house), before)
        self.assertEqual(repr((arguments, named)), given)

    def exposed(self, name, instance, group, known, call, *arguments):
        fields = {"name": name, "instance": instance, "group": group, "known": known}
        self.fails(Exposed, fields, call, *arguments)

    def places(self):
        return [(name, instance, group) for name, instance, group, _ in self.house.guards()]


class NewHouseTest(HouseTest):
    def test_new(self):
        self.house = House()
        self.assertEqual((self.house.world(), self.house.readers(), self.house.groups()), ((), [], [()]))
        self.assertEqual((self.house.secrets(), self.house.guards(), self.house.history()), ([], [], []))
        self.assertEqual((self.house.reservations(), self.house.transcript(())), ([], []))
        self.assertTrue(self.house.tables() == Tables())
        self.assertEqual(self.house.policy(), (1, 5040, (), (), ()))
        self.assertTrue(self.house.knowledge(()) == Knowledge(1))

    def test_bounds(self):
        for modulus in (1, 2, 5040, 999999, 1000000):
            self.assertEqual(House(modulus=modulus).policy()[1], modulus)
        for modulus in (0, -1, 1000001, 10 ** 299, True, False, None, "5040", (), [5040], (5040,)):
            self.fails(BadModulus, {"modulus": frozen(modulus)}, lambda: House(modulus=modulus))
        with self.assertRaises(TypeError):
            House(5040)

    def test_identity(self):
        twin = self.house.copy()
        self.assertTrue(self.house == self.house and self.house != twin)


class TablesTest(HouseTest):
    def test_as_tables_do(self):
        house, tables = House(), Tables()
        for both in (house, tables):
            self.assertIsNone(both.add_table("t", (("a", "int"), ("w", "word")), ("x", "y")))
        self.assertEqual(house.add_row("t", (1, "one"), (10, -20)), tables.add_row("t", (1, "one")))
        self.assertEqual(house.add_row("t", [2, "two"], [10 ** 29, -10 ** 29]), tables.add_row("t", (2, "two")))
        for both in (house, tables):
            self.assertEqual(both.next_day(), 1)
            self.assertIsNone(both.set_tag("t", 1, "w", "new"))
            self.assertIsNone(both.shift("t", 1, "y", 10 ** 29))
        self.assertIsNone(house.change("t", 2, "x", -1))
        self.assertEqual(tables.change("t", 2, "x"), (2, 4))
        self.assertTrue(house.tables() == tables)
        self.assertEqual(house.world(), (10, -20, 10 ** 29, -10 ** 29, -1))
        for both in (house, tables):
            self.assertIsNone(both.remove_row("t", 1))
        self.assertTrue(house.tables() == tables)
        self.assertEqual(house.world(), (10, -20, 10 ** 29, -10 ** 29, -1))
        self.assertEqual(house.tables().rows("t", 0)[0], (1, (1, "one"), ((0, 0), (1, 0))))

    def test_tables_are_a_copy(self):
        shown = self.house.tables()
        shown.add_row("staff", ("hr",))
        shown.next_day()
        self.assertEqual((self.house.tables().cells(), self.house.tables().day()), (2, 0))
        self.assertEqual(self.house.add_row("staff", ("hr",), (5,)), 3)
        self.assertEqual(self.house.world(), (100, 140, 5))

    def test_errors_as_tables_raise_them(self):
        house = self.house
        self.fails(BadSchema, {"part": "name"}, house.add_table, "T", (), ())
        self.fails(BadSchema, {"part": "tags"}, house.add_table, "t", None, ())
        self.fails(BadSchema, {"part": "closed"}, house.add_table, "t", (), ())
        self.fails(Duplicate, {"name": "staff"}, house.add_table, "staff", (), ("x",))
        for call, rest in ((house.remove_row, ()), (house.set_tag, ("dept", "hr")), (house.shift, ("pay", 1)),
                           (house.change, ("pay", 1))):
            self.fails(UnknownTable, {"name": "nowhere"}, call, "nowhere", 9, *rest)
            for row in (0, 3, -1, True, None, "1", (), [1]):
                self.fails(UnknownRow, {"row": frozen(row)}, call, "staff", row, *rest)
        for column in ("id", "pay", "nothing"):
            self.fails(UnknownColumn, {"column": column}, house.set_tag, "staff", 1, column, 1)
        for column in ("id", "dept", "nothing"):
            self.fails(UnknownColumn, {"column": column}, house.shift, "staff", 1, column, 1)
            self.fails(UnknownColumn, {"column": column}, house.change, "staff", 1, column, None)
        self.fails(BadTags, {"position": 0}, house.set_tag, "staff", 1, "dept", 1)

    def test_add_row_errors_in_order(self):
        house = self.house
        house.add_table("t", (("a", "int"),), ("x", "y"))
        self.fails(UnknownTable, {"name": "u"}, house.add_row, "u", None, None)
        self.fails(BadTags, {"position": 0}, house.add_row, "t", ("one",), ())
        self.fails(BadTags, {"position": 1}, house.add_row, "t", (1, 2), (None,))
        self.fails(BadTags, {"position": 0}, house.add_row, "t", (), (None,))
        for values, position in (((), 0), ((1,), 1), ((1, 2, 3), 2), ((None, None, None), 0), ((1, "2", 3), 1),
                                 ((True, 1), 0), ([1, False], 1), ([[1], 1], 0), ([1, (2,)], 1)):
            self.fails(BadValues, {"position": position}, house.add_row, "t", (1,), values)
        for _ in range(5):
            house.add_row("t", (1,), (1, 2))
        self.fails(BadTags, {"position": 0}, house.add_row, "t", (None,), (1, 2))
        self.fails(BadValues, {"position": 1}, house.add_row, "t", (1,), (1,))
        self.fails(TooMany, {"kind": "cell"}, house.add_row, "t", (1,), (1, 2))
        self.fails(BadValues, {"position": 0}, house.change, "t", 1, "x", None)
        self.fails(TooMany, {"kind": "cell"}, house.change, "t", 1, "x", 1)
        # Removed rows make no room: a cell is never removed.
        house.remove_row("t", 5)
        self.fails(TooMany, {"kind": "cell"}, house.add_row, "t", (1,), (1, 2))
        self.assertEqual(len(house.world()), 12)

    def test_change_errors_in_order(self):
        for value in (None, True, False, "1", (), [1], (1,)):
            self.fails(BadValues, {"position": 0}, self.house.change, "staff", 1, "pay", value)
            self.fails(UnknownColumn, {"column": "x"}, self.house.change, "staff", 1, "x", value)

    def test_days(self):
        for day in range(1, 8):
            self.assertEqual(self.house.next_day(), day)
        self.fails(TooMany, {"kind": "day"}, self.house.next_day)
        self.fails(QueryError, {"reason": "day", "position": 0}, self.house.ask, "ann", "select count from staff at day 8")

    def test_later_changes_have_no_effect(self):
        tags, values = ["hr"], [7]
        self.house.add_row("staff", tags, values)
        tags[0], values[0] = "changed", None
        tags.append(1)
        self.assertEqual(self.house.world(), (100, 140, 7))
        self.assertEqual(self.house.tables().rows("staff")[2], (3, ("hr",), ((2, 0),)))

    def test_forms_get_an_entry_for_a_new_cell(self):
        house = self.house
        house.ask("ann", ALL)
        number = house.reserve("ann", (7, 7))
        house.add_row("staff", ("hr",), (1,))
        self.assertEqual(house.history(), [("ann", (1, 1, 0), 0)])
        self.assertEqual(house.reservations(), [(number, "ann", (7, 7, 0))])
        self.assertEqual(house.secrets(), [("one", 1, (), ((1, 0, 0),))])
        self.assertEqual(house.knowledge(("ann",)).observations(), (((1, 1, 0), 0),))
        self.assertEqual(house.policy()[0], 3)
        self.assertEqual(house.policy()[4], (("one#00", (1, 0, 0), 1, ()),))
        house.change("staff", 2, "pay", 5)
        self.assertEqual(house.history(), [("ann", (1, 1, 0, 0), 0)])
        self.assertEqual(house.knowledge(()).size(), 4)
        for _, _, _, (knowledge, form, _) in house.guards():
            self.assertEqual((knowledge.size(), len(form)), (4, 4))


class ReadersTest(HouseTest):
    def test_readers(self):
        for name in ("zed", "bob", "abcdefghijkl", "a_1", "b"):
            self.assertIsNone(self.house.add_reader(name))
        wanted = ["a_1", "abcdefghijkl", "ann", "b", "bob", "zed"]
        self.assertEqual(self.house.readers(), wanted)
        shown = self.house.readers()
        shown.append("x")
        shown[0] = "y"
        self.assertEqual(self.house.readers(), wanted)

    def test_errors(self):
        for name in BAD_NAMES:
            self.fails(BadName, {"name": frozen(name)}, self.house.add_reader, name)
        self.fails(Duplicate, {"name": "ann"}, self.house.add_reader, "ann")
        for name in "bcdef":
            self.house.add_reader(name)
        self.fails(BadName, {"name": "A"}, self.house.add_reader, "A")
        self.fails(Duplicate, {"name": "ann"}, self.house.add_reader, "ann")
        self.fails(TooMany, {"kind": "reader"}, self.house.add_reader, "g")

    def test_a_new_reader_knows_the_publications(self):
        self.house.publish(TWO)
        self.house.ask("ann", "select count from staff")
        self.house.add_reader("bob")
        self.assertEqual(self.house.knowledge(["bob"]).observations(), (((0, 1), 0),))
        self.assertEqual(self.house.transcript(["bob"]), [(0, "", TWO, [((), 0, 140)])])


class GroupsTest(HouseTest):
    def setUp(self):
        self.house = sample(readers=("ann", "bob", "cy", "dee", "eve", "fay"))

    def test_groups(self):
        singles = [(), ("ann",), ("bob",), ("cy",), ("dee",), ("eve",), ("fay",)]
        self.assertEqual(self.house.groups(), singles)
        self.assertIsNone(self.house.add_group(["dee", "bob"]))
        self.house.add_group(("cy", "ann", "bob"))
        self.house.add_group(("cy", "ann"))
        self.house.add_group(("fay", "eve", "dee", "cy", "bob", "ann"))
        wanted = singles + [("ann", "cy"), ("bob", "dee"), ("ann", "bob", "cy"), ("ann", "bob", "cy", "dee", "eve", "fay")]
        self.assertEqual(self.house.groups(), wanted)
        shown = self.house.groups()
        shown.clear()
        self.assertEqual(self.house.groups(), wanted)
        self.assertIsNone(self.house.drop_group(["cy", "ann"]))
        wanted.remove(("ann", "cy"))
        self.assertEqual(self.house.groups(), wanted)
        self.house.add_group(("ann", "cy"))
        self.assertEqual(len(self.house.groups()), len(wanted) + 1)

    def test_errors_in_order(self):
        add = self.house.add_group
        self.fails(UnknownReader, {"name": "zed"}, add, ["zed"])
        self.fails(UnknownReader, {"name": "zed"}, add, ("ann", "ann", "zed", "abe"))
        self.fails(UnknownReader, {"name": ""}, add, ("",))
        for readers in ((), [], ("ann",), ("ann", "ann"), ["bob", "ann", "bob"]):
            self.fails(BadGroup, {}, add, readers)
        add(("bob", "ann"))
        self.fails(BadGroup, {}, add, ("ann", "bob", "ann"))
        self.fails(Duplicate, {"name": ("ann", "bob")}, add, ["ann", "bob"])
        self.fails(Duplicate, {"name": ("ann", "bob")}, add, ("bob", "ann"))

    def test_at_most_eight(self):
        pairs = [("ann", "bob"), ("ann", "cy"), ("ann", "dee"), ("ann", "eve"), ("ann", "fay"), ("bob", "cy"),
                 ("bob", "dee"), ("bob", "eve")]
        for pair in pairs:
            self.house.add_group(pair)
        self.fails(Duplicate, {"name": ("bob", "eve")}, self.house.add_group, ("eve", "bob"))
        self.fails(TooMany, {"kind": "group"}, self.house.add_group, ("cy", "dee"))
        self.house.drop_group(("eve", "bob"))
        self.house.add_group(("cy", "dee"))
        self.fails(TooMany, {"kind": "group"}, self.house.add_group, ("eve", "bob"))
        self.assertEqual(len(self.house.groups()), 15)

    def test_exposed(self):
        # Each of them alone knows nothing about the secret, together they know it.
        self.house.ask("ann", ALL)
        self.assertEqual(self.house.ask("bob", TWO), [((), 0, 140)])
        self.exposed("one", 0, ("ann", "bob"), 0, self.house.add_group, ("bob", "ann"))
        self.exposed("one", 0, ("ann", "bob", "cy"), 0, self.house.add_group, ("bob", "cy", "ann"))
        for other in ("cy", "dee", "eve", "fay"):
            self.house.add_group((other, "bob"))
            self.house.add_group((other, "ann"))
        self.fails(TooMany, {"kind": "group"}, self.house.add_group, ("bob", "ann"))
        self.house.clear("one", "bob")
        self.house.drop_group(("bob", "cy"))
        self.assertIsNone(self.house.add_group(("ann", "bob")))

    def test_drop_group_errors(self):
        self.house.add_group(("ann", "bob"))
        drop = self.house.drop_group
        self.fails(UnknownGroup, {"group": ("ann",)}, drop, ("ann",))
        self.fails(UnknownGroup, {"group": ()}, drop, [])
        self.fails(UnknownGroup, {"group": ("ann", "cy")}, drop, ["cy", "ann"])
        self.fails(UnknownGroup, {"group": ("ann", "ann", "bob")}, drop, ["ann", "bob", "ann"])
        self.fails(UnknownGroup, {"group": ("ann", "zed")}, drop, ["zed", "ann"])
        self.assertIsNone(drop(["bob", "ann"]))
        self.fails(UnknownGroup, {"group": ("ann", "bob")}, drop, ["bob", "ann"])

    def test_readers_that_are_passed_stay(self):
        readers = ["bob", "ann"]
        self.house.add_group(readers)
        self.assertEqual(readers, ["bob", "ann"])
        readers.append("cy")
        self.assertEqual(self.house.groups()[-1], ("ann", "bob"))

    def test_knowledge(self):
        self.house.publish("select count from staff")
        self.house.ask("bob", TWO)
        self.house.ask("ann", ALL)
        self.house.ask("bob", "select sum(2 * pay) from staff where id = 2")
        zero, two, total, twice = ((0, 0), 0), ((0, 1), 0), ((1, 1), 0), ((0, 2), 0)
        known = self.house.knowledge
        self.assertEqual(known(()).observations(), (zero,))
        self.assertEqual(known(["ann"]).observations(), (zero, total))
        self.assertEqual(known(("bob",)).observations(), (zero, two, twice))
        for readers in (("ann", "bob"), ["bob", "ann"], ("bob", "ann", "bob", "bob"), ["cy", "bob", "ann"]):
            self.assertEqual(known(readers).observations(), (zero, two, total, twice))
        self.assertTrue(known(["ann"]) == Knowledge(2, [total]))
        self.fails(UnknownReader, {"name": "zed"}, known, ["ann", "zed", "abe"])
        self.fails(UnknownReader, {"name": "abe"}, known, ("abe", "zed"))


class SecretsTest(HouseTest):
    def setUp(self):
        self.house = sample(readers=("ann", "bob", "cy"))

    def test_secrets(self):
        house = self.house
        self.assertIsNone(house.add_secret("all", ALL, 12, ["cy", "ann", "cy"]))
        self.assertIsNone(house.add_secret("zero", "select sum(pay + 7) from staff where id = 2", margin=1000000))
        wanted = [("all", 12, ("ann", "cy"), ((1, 1),)), ("one", 1, (), ((1, 0),)), ("zero", 1000000, (), ((0, 1),))]
        self.assertEqual(house.secrets(), wanted)
        shown = house.secrets()
        shown.pop()
        shown[0] = None
        self.assertEqual(house.secrets(), wanted)
        self.assertIsNone(house.drop_secret("one"))
        self.assertEqual(house.secrets(), [wanted[0], wanted[2]])
        house.add_secret("one", TWO, 3)
        self.assertEqual(house.secrets()[1], ("one", 3, (), ((0, 1),)))

    def test_add_secret_errors_in_order(self):
        add = self.house.add_secret
        for name in BAD_NAMES:
            self.fails(BadName, {"name": frozen(name)}, add, name, "nothing", None, ("zed",))
        self.fails(Duplicate, {"name": "one"}, add, "one", "nothing", None, ("zed",))
        self.fails(QuerySyntax, {"position": 0}, add, "x", "nothing", None, ("zed",))
        self.fails(QuerySyntax, {"position": 0}, add, "x", "", 1)
        fields = {"reason": "table", "position": 0}
        self.fails(QueryError, fields, add, "x", "select count from nowhere", None, ("zed",))
        for text in ("select sum(pay), sum(pay) from staff", "select sum(pay) from staff by id",
                     "select sum(pay) from staff where id = 9 by id"):
            self.fails(NotSingle, {}, add, "x", text, None, ("zed",))
        for margin in (0, -1, 1000001, True, False, None, "1", (), [1], (1,)):
            self.fails(BadMargin, {"margin": frozen(margin)}, add, "x", ONE, margin, ("zed",))
        self.fails(UnknownReader, {"name": "zed"}, add, "x", ONE, 1, ("ann", "zed", "abe"))
        self.exposed("x", 0, (), 0, add, "x", "select count from staff", 1)
        self.assertIsNone(add("x", "select sum(pay) from staff where id = 1 by id", 1))

    def test_exposed_example(self):
        self.exposed("x", 0, (), 0, self.house.add_secret, "x", "select count from staff", 1000000)

    def test_exposed_by_what_is_known(self):
        self.house.ask("bob", TWO)
        self.exposed("two", 0, ("bob",), 0, self.house.add_secret, "two", TWO, 5)
        self.assertIsNone(self.house.add_secret("two", TWO, 5, ("bob",)))
        self.exposed("two", 0, ("bob",), 0, self.house.unclear, "two", "bob")
        self.exposed("three", 0, (), 3, self.house.add_secret, "three", "select sum(3 * pay) from staff", 4)
        self.exposed("three", 0, (), 6, self.house.add_secret, "three", "select sum(6 * pay) from staff", 10)
        self.assertIsNone(self.house.add_secret("three", "select sum(6 * pay) from staff", 12))

    def test_at_most_eight(self):
        for number in range(7):
            self.house.add_secret(f"s{number}", TWO, 1)
        self.fails(Duplicate, {"name": "s3"}, self.house.add_secret, "s3", TWO, 1)
        self.fails(BadMargin, {"margin": 0}, self.house.add_secret, "x", TWO, 0)
        self.fails(UnknownReader, {"name": "zed"}, self.house.add_secret, "x", TWO, 1, ("zed",))
        self.fails(TooMany, {"kind": "secret"}, self.house.add_secret, "x", TWO, 1)
        self.fails(TooMany, {"kind": "secret"}, self.house.add_secret, "x", "select count from staff", 1)
        self.house.drop_secret("s3")
        self.assertIsNone(self.house.add_secret("x", TWO, 1))
        self.fails(TooMany, {"kind": "secret"}, self.house.add_secret, "y", TWO, 1)

    def test_clear_and_unclear(self):
        house = self.house
        for _ in range(2):
            self.assertIsNone(house.clear("one", "cy"))
            self.assertIsNone(house.clear("one", "ann"))
        self.assertEqual(house.secrets()[0][2], ("ann", "cy"))
        self.assertEqual(self.places(), [("one", 0, ()), ("one", 0, ("bob",))])
        for _ in range(2):
            self.assertIsNone(house.unclear("one", "ann"))
        self.assertEqual(house.secrets()[0][2], ("cy",))
        self.assertEqual(house.ask("cy", ONE), [((), 0, 100)])
        self.exposed("one", 0, ("cy",), 0, house.unclear, "one", "cy")
        self.assertEqual(house.ask("ann", ONE), [((), 1, None)])

    def test_unknown_secrets_and_readers(self):
        house = self.house
        self.fails(UnknownSecret, {"name": "two"}, house.drop_secret, "two")
        for call in (house.clear, house.unclear):
            self.fails(UnknownSecret, {"name": "two"}, call, "two", "zed")
            self.fails(UnknownReader, {"name": "zed"}, call, "one", "zed")
        house.drop_secret("one")
        self.fails(UnknownSecret, {"name": "one"}, house.drop_secret, "one")

    def test_passed_lists_stay(self):
        cleared = ["cy", "ann", "cy"]
        self.house.add_secret("two", TWO, 1, cleared)
        self.assertEqual(cleared, ["cy", "ann", "cy"])
        cleared.clear()
        self.assertEqual(self.house.secrets()[1][2], ("ann", "cy"))


class InstancesTest(HouseTest):
    def setUp(self):
        self.house = House()
        self.house.add_table("t", (), ("x", "y"))
        self.house.add_row("t", (), (1, 2))
        self.house.add_row("t", (), (3, 4))
        self.house.next_day()
        self.house.add_secret("both", "select sum(2 * x - 5 * y) from t where id = 1", 6)
        self.house.add_secret("old", "select sum(x) from t at day 0 where id = 1", 1)
        self.house.add_secret("other", "select sum(y) from t where id = 2", 1)

    def forms(self):
        return {name: forms for name, _, _, forms in self.house.secrets()}

    def test_replaced_cells(self):
        self.house.change("t", 1, "x", 10)
        self.assertEqual(self.forms(), {
            "both": ((2, -5, 0, 0, 0), (0, -5, 0, 0, 2)),
            "old": ((1, 0, 0, 0, 0), (0, 0, 0, 0, 1)),
            "other": ((0, 0, 0, 1, 0),),
        })
        self.house.change("t", 1, "y", 10)
        self.house.change("t", 1, "x", 10)
        self.assertEqual(self.forms(), {
            "both": ((2, -5, 0, 0, 0, 0, 0), (0, -5, 0, 0, 2, 0, 0), (0, 0, 0, 0, 2, -5, 0), (0, 0, 0, 0, 0, -5, 2)),
            "old": ((1, 0, 0, 0, 0, 0, 0), (0, 0, 0, 0, 1, 0, 0), (0, 0, 0, 0, 0, 0, 1)),
            "other": ((0, 0, 0, 1, 0, 0, 0),),
        })
        self.assertEqual(self.places(), [
            ("both", 0, ()), ("both", 1, ()), ("both", 2, ()), ("both", 3, ()),
            ("old", 0, ()), ("old", 1, ()), ("old", 2, ()), ("other", 0, ()),
        ])

    def test_what_changes_no_secret(self):
        before = self.forms()
        self.house.shift("t", 1, "x", 5)
        self.house.next_day()
        self.house.remove_row("t", 1)
        self.assertEqual(self.forms(), before)
        self.house.add_row("t", (), (5, 6))
        self.house.change("t", 3, "x", 7)
        self.house.change("t", 2, "x", 7)
        for name, forms in self.forms().items():
            self.assertEqual(forms, (before[name][0] + (0, 0, 0, 0),))

    def test_an_older_cell_is_not_the_latest(self):
        # The secret of day 0 goes on with the new cell, whatever its query names.
        self.house.change("t", 1, "x", 10)
        self.house.add_secret("late", "select sum(x) from t at day 0 where id = 1", 1)
        self.house.change("t", 1, "x", 11)
        self.assertEqual(self.forms()["late"], ((1, 0, 0, 0, 0, 0),))
        self.assertEqual(len(self.forms()["old"]), 3)

    def test_a_new_instance_is_kept(self):
        self.house.add_reader("ann")
        for column in ("x", "y", "x", "x", "y"):
            self.house.ask("ann", "select sum(x), sum(y), sum(x + y) from t")
            self.house.change("t", 1, column, 9)
            for _, _, _, guard in self.house.guards():
                self.assertTrue(holds(guard))

    def test_twelve_cells_and_names_of_instances(self):
        for number in range(8):
            self.house.change("t", 1, "x", number)
        self.assertEqual(len(self.forms()["old"]), 9)
        self.fails(TooMany, {"kind": "cell"}, self.house.change, "t", 1, "x", 1)
        names = [name for name, _, _, _ in self.house.policy()[4]]
        wanted = [f"both#0{k}" for k in range(9)] + [f"old#0{k}" for k in range(9)] + ["other#00"]
        self.assertEqual(names, wanted)

    def test_two_digits(self):
        house = House()
        house.add_table("t", (), ("x",))
        house.add_row("t", (), (1,))
        house.add_secret("s", "select sum(x) from t", 1)
        for number in range(11):
            house.change("t", 1, "x", number)
        self.assertEqual([secret[0] for secret in house.policy()[4]], [f"s#{k:02d}" for k in range(12)])


class GuardsTest(HouseTest):
    def setUp(self):
        self.house = sample(readers=("cy", "ann", "bob"))

    def test_order_and_effective_groups(self):
        self.house.add_group(("bob", "ann"))
        self.house.add_group(("ann", "bob", "cy"))
        self.house.add_secret("b", TWO, 7, ("ann",))
        self.assertEqual(self.places(), [
            ("b", 0, ()), ("b", 0, ("bob",)), ("b", 0, ("cy",)), ("b", 0, ("bob", "cy")),
            ("one", 0, ()), ("one", 0, ("ann",)), ("one", 0, ("bob",)), ("one", 0, ("cy",)),
            ("one", 0, ("ann", "bob")), ("one", 0, ("ann", "bob", "cy")),
        ])
        self.house.clear("b", "bob")
        self.house.clear("b", "cy")
        self.assertEqual(self.places()[0], ("b", 0, ()))
        self.assertEqual(self.places()[1][0], "one")
        self.house.change("staff", 1, "pay", 3)
        self.assertEqual([place[:2] for place in self.places()], [("b", 0)] + [("one", 0)] * 6 + [("one", 1)] * 6)

    def test_guard(self):
        self.house.add_group(("bob", "ann"))
        self.house.ask("ann", ALL)
        self.house.reserve("bob", (2, 2))
        self.house.reserve("ann", [3, 3])
        self.house.publish("select count from staff")
        shown = {group: guard for _, _, group, guard in self.house.guards()}
        zero, total = ((0, 0), 0), ((1, 1), 0)
        wanted = {
            (): (zero,), ("ann",): (total, zero, ((3, 3), 0)), ("bob",): (zero, ((2, 2), 0)), ("cy",): (zero,),
            ("ann", "bob"): (total, zero, ((2, 2), 0), ((3, 3), 0)),
        }
        for group, (knowledge, form, margin) in shown.items():
            self.assertIsInstance(knowledge, Knowledge)
            self.assertEqual((form, margin), ((1, 0), 1))
            self.assertEqual(knowledge.observations(), wanted[group])
        self.assertEqual(set(shown), set(wanted))

    def test_new_lists(self):
        shown = self.house.guards()
        shown.clear()
        self.assertEqual(len(self.house.guards()), 4)

    def test_first_guard_that_would_not_hold(self):
        self.house.add_secret("a", ONE, 1, ("ann", "bob"))
        self.house.add_secret("b", "select sum(pay) from staff where id = 1", 5)
        self.exposed("a", 0, (), 0, self.house.publish, ONE)
        self.exposed("a", 0, ("cy",), 0, self.house.reserve, "cy", (1, 0))
        self.exposed("b", 0, ("ann",), 0, self.house.reserve, "ann", (1, 0))
        self.house.clear("b", "ann")
        self.exposed("one", 0, ("ann",), 0, self.house.reserve, "ann", (7, 0))
        self.house.clear("one", "ann")
        self.assertEqual(self.house.reserve("ann", (7, 0)), 0)
        self.exposed("one", 0, ("ann",), 0, self.house.unclear, "one", "ann")

    def test_instances_of_an_exposed_secret(self):
        self.house.change("staff", 1, "pay", 7)
        self.exposed("one", 1, (), 0, self.house.publish, ONE)
        self.house.next_day()
        self.assertEqual(self.house.publish("select count from staff at day 0"), [((), 2)])


class ReservationsTest(HouseTest):
    def setUp(self):
        self.house = sample(readers=("ann", "bob"))

    def test_numbers(self):
        reserve, release = self.house.reserve, self.house.release
        self.assertEqual(reserve("ann", (1, 1)), 0)
        self.assertEqual(reserve("bob", [0, 1]), 1)
        self.assertEqual(reserve("ann", (2, 2)), 2)
        wanted = [(0, "ann", (1, 1)), (1, "bob", (0, 1)), (2, "ann", (2, 2))]
        self.assertEqual(self.house.reservations(), wanted)
        self.assertIsNone(release(1))
        self.assertEqual(self.house.reservations(), [wanted[0], wanted[2]])
        self.fails(UnknownReservation, {"number": 1}, release, 1)
        self.assertEqual(reserve("bob", (0, 1)), 3)
        for number in (0, 2, 3):
            release(number)
        self.assertEqual(self.house.reservations(), [])
        self.assertEqual(reserve("bob", (0, 1)), 4)
        shown = self.house.reservations()
        shown.clear()
        self.assertEqual(len(self.house.reservations()), 1)

    def test_release_errors(self):
        self.house.reserve("ann", (1, 1))
        self.house.reserve("ann", (1, 1))
        for number in (2, -1, True, False, None, "0", (), [0], (0,), 10 ** 299):
            self.fails(UnknownReservation, {"number": frozen(number)}, self.house.release, number)
        self.house.release(0)
        self.fails(UnknownReservation, {"number": 0}, self.house.release, 0)
        self.fails(UnknownReservation, {"number": True}, self.house.release, True)

    def test_reserve_errors_in_order(self):
        reserve = self.house.reserve
        self.fails(UnknownReader, {"name": "zed"}, reserve, "zed", None)
        for form in ODD_THINGS + ((1,), (1, 2, 3), (1, True), [1, None], ("1", 1), (1, (1,)), (0,)):
            if form != [1, 2]:
                self.fails(BadForm, {"form": frozen(form)}, reserve, "ann", form)
        self.exposed("one", 0, ("ann",), 0, reserve, "ann", (1, 0))
        for _ in range(6):
            reserve("ann", (1, 1))
        self.fails(BadForm, {"form": (1,)}, reserve, "ann", (1,))
        self.fails(TooMany, {"kind": "reservation"}, reserve, "ann", (1, 0))
        self.house.release(3)
        self.exposed("one", 0, ("ann",), 0, reserve, "ann", (1, 0))
        # Where the call raised an error, no number was used up.
        self.assertEqual(reserve("bob", (1, 1)), 6)
        self.fails(TooMany, {"kind": "reservation"}, reserve, "ann", (1, 1))

    def test_house_without_cells(self):
        self.house = House()
        self.house.add_reader("ann")
        for form in ((), (1,), (-3,), [7], (0, 0), (True,), (False,)):
            self.fails(BadForm, {"form": frozen(form)}, self.house.reserve, "ann", form)
        self.assertEqual(self.house.reserve("ann", [0]), 0)
        self.assertEqual(self.house.reservations(), [(0, "ann", (0,))])
        self.house.add_table("t", (), ("x", "y"))
        self.house.add_row("t", (), (1, 2))
        self.assertEqual(self.house.reservations(), [(0, "ann", (0, 0))])

    def test_what_is_reserved_is_answered(self):
        house = self.house
        self.assertEqual(house.reserve("ann", (0, 1)), 0)
        self.assertEqual(house.would("ann", ALL), [((), 1)])
        self.assertEqual(house.would("bob", ALL), [((), 0)])
        self.assertEqual(house.ask("ann", ALL), [((), 1, None)])
        self.assertEqual(house.reservations(), [(0, "ann", (0, 1))])
        self.assertEqual(house.ask("ann", TWO), [((), 0, 140)])
        self.assertEqual(house.reservations(), [])
        self.assertEqual(house.ask("ann", ALL), [((), 1, None)])

    def test_a_released_reservation_does_not_count(self):
        number = self.house.reserve("ann", (0, 1))
        self.house.release(number)
        self.assertEqual(self.house.ask("ann", ALL), [((), 0, 240)])

    def test_what_closes_reservations(self):
        house = self.house
        for reader, form in (("ann", (1, 1)), ("ann", (1, 1)), ("bob", (1, 1)), ("ann", (2, 2)), ("ann", (-1, -1))):
            house.reserve(reader, form)
        house.publish(ALL)
        self.assertEqual([number for number, _, _ in house.reservations()], [0, 1, 2, 3, 4])
        house.would("ann", ALL)
        self.assertEqual(len(house.reservations()), 5)
        # The constant is no part of the form, and every row of an answer counts.
        house.ask("ann", "select sum(2 * pay), sum(pay + 5) from staff")
        self.assertEqual(house.reservations(), [(2, "bob", (1, 1)), (4, "ann", (-1, -1))])

    def test_reserved_groups(self):
        self.house.add_group(("ann", "bob"))
        self.house.reserve("ann", (0, 1))
        self.exposed("one", 0, ("ann", "bob"), 0, self.house.reserve, "bob", (1, 1))
        self.assertEqual(self.house.ask("bob", ALL), [((), 1, None)])
        self.exposed("one", 0, (), 0, self.house.publish, ONE)
        self.exposed("one", 0, ("ann",), 0, self.house.publish, ALL)
        self.house.drop_group(("ann", "bob"))
        self.assertEqual(self.house.reserve("bob", (1, 1)), 1)
        self.exposed("one", 0, ("ann", "bob"), 0, self.house.add_group, ("ann", "bob"))


class CopyTest(HouseTest):
    def test_independent(self):
        house = sample(readers=("ann", "bob"))
        house.ask("ann", ALL)
        house.reserve("bob", (1, 1))
        before, made = state(house), house.copy()
        self.assertEqual(state(made), before)
        made.add_table("t", (), ("x",))
        made.add_row("t", (), (1,))
        made.change("staff", 1, "pay", 2)
        made.shift("staff", 2, "pay", 2)
        made.next_day()
        made.add_reader("cy")
        made.add_group(("ann", "bob"))
        made.add_secret("two", TWO, 5)
        made.clear("one", "ann")
        made.ask("bob", ALL)
        made.publish("select count from staff")
        made.reserve("cy", (1, 1, 0, 0))
        self.assertEqual(state(house), before)
        after = state(made)
        house.drop_secret("one")
        house.remove_row("staff", 1)
        house.release(0)
        house.ask("ann", TWO)
        self.assertEqual(state(made), after)
        self.assertEqual(house.reserve("ann", (1, 1)), 1)
        self.assertEqual(made.reserve("ann", (0, 0, 0, 0)), 2)

    def test_keywords(self):
        house = House(modulus=12)
        house.add_table(name="t", tags=[["a", "int"]], closed=["x"])
        self.assertEqual(house.add_row(table="t", tags=[1], values=[5]), 1)
        self.assertEqual(house.add_row(values=(6,), tags=(2,), table="t"), 2)
        house.set_tag(table="t", row=1, column="a", tag=3)
        house.shift(table="t", row=1, column="x", amount=1)
        house.add_reader(name="ann")
        house.add_reader(name="bob")
        house.add_group(readers=["bob", "ann"])
        house.add_secret(name="s", query="select sum(x) from t where id = 1", margin=4, cleared=["bob"])
        house.clear(name="s", reader="ann")
        house.unclear(name="s", reader="ann")
        house.change(table="t", row=2, column="x", value=9)
        self.assertEqual(house.would(reader="ann", query="select sum(x) from t where id = 1"), [((), 4)])
        self.assertEqual(house.ask(reader="ann", query="select sum(x) from t where id = 1"), [((), 4, 2)])
        self.assertEqual(house.publish(query="select count from t"), [((), 2)])
        self.assertEqual(len(house.transcript(readers=["ann"])), 2)
        self.assertIsNone(house.why(reader="ann", query="select sum(x) from t where id = 1", modulus=2))
        self.assertEqual(house.knowledge(readers=["ann"]).grain(form=(1, 0, 0)), 4)
        self.assertEqual(house.reserve(reader="ann", form=[0, 1, 0]), 0)
        house.release(number=0)
        house.drop_group(readers=["ann", "bob"])
        house.drop_secret(name="s")
        house.remove_row(table="t", row=1)
        self.assertEqual(house.world(), (5, 6, 9))
        self.assertEqual(keep_witness((house.knowledge(["bob"]), (1, 0, 0), 1))[0], 1)


if __name__ == "__main__":
    unittest.main()
