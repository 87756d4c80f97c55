import copy
import random
import unittest

import model
from hushgrain.compiler import compiled, evaluated
from hushgrain.errors import HushError, QueryError
from hushgrain.parser import parse, written
from hushgrain.tables import Tables
from support import listed, value


def staff():
    tables = Tables()
    tables.add_table("staff", (("dept", "word"),), ("pay",))
    tables.add_row("staff", ("ops",))
    return tables


def sample():
    """Two tables, two days behind the current one, entries that are shifted and replaced."""
    tables = Tables()
    tables.add_table("staff", (("dept", "word"), ("age", "int")), ("pay", "debt"))
    tables.add_table("units", (("name", "word"), ("level", "int")), ("cost",))
    tables.add_row("staff", ("ops", 30))
    tables.add_row("staff", ("sales", -5))
    tables.next_day()
    tables.shift("staff", 1, "pay", 100)
    tables.add_row("units", ("ops", 7))
    tables.add_table("late", (), ("x",))
    tables.next_day()
    tables.change("staff", 2, "debt")
    tables.shift("staff", 2, "debt", -7)
    tables.add_row("staff", ("ops", 30))
    tables.add_row("units", ("", 10))
    tables.add_row("late", ())
    return tables


class CompiledTest(unittest.TestCase):
    def setUp(self):
        self.tables = sample()

    def rows(self, text, tables=None):
        return compiled(parse(text), self.tables if tables is None else tables)

    def weights(self, text):
        """What has a weight in each row: (labels, {cell: weight}, constant)."""
        shown = []
        for labels, form, constant in self.rows(text):
            self.assertEqual(len(form), self.tables.cells())
            shown.append((labels, {cell: weight for cell, weight in enumerate(form) if weight}, constant))
        return shown

    def test_examples(self):
        self.assertEqual(self.rows("select sum(2 * pay) from staff", staff()), [((), (2,), 0)])
        text = "select sum(a.pay - b.pay) from staff as a, staff at day 0 as b where a.id = b.id"
        self.assertEqual(self.weights(text), [((), {}, 100)])

    def test_cells_of_the_sample(self):
        # staff 1: 0, 1; staff 2: 2, 3 and later 5; units 1: 4; staff 3: 6, 7; units 2: 8; late 1: 9.
        self.assertEqual(self.tables.cells(), 10)
        self.assertEqual(self.weights("select sum(pay) from staff"), [((), {0: 1, 2: 1, 6: 1}, 100)])
        self.assertEqual(self.weights("select sum(debt) from staff"), [((), {1: 1, 5: 1, 7: 1}, -7)])
        self.assertEqual(self.weights("select sum(cost) from units"), [((), {4: 1, 8: 1}, 0)])

    def test_days(self):
        self.assertEqual(self.weights("select sum(debt) from staff at day 0"), [((), {1: 1, 3: 1}, 0)])
        self.assertEqual(self.weights("select sum(pay) from staff at day 0"), [((), {0: 1, 2: 1}, 0)])
        self.assertEqual(self.weights("select sum(pay) from staff at day 1"), [((), {0: 1, 2: 1}, 100)])
        for text in ("select sum(pay), count from staff at day 2", "select sum(pay), count from staff"):
            self.assertEqual(self.weights(text), [((), {0: 1, 2: 1, 6: 1}, 100), ((), {}, 3)])
        self.assertEqual(self.weights("select count from late at day 1"), [((), {}, 0)])
        self.assertEqual(self.weights("select count from late"), [((), {}, 1)])

    def test_groups_and_labels(self):
        rows = self.weights("select sum(pay), count from staff by dept")
        wanted = [(("ops",), {0: 1, 6: 1}, 100), (("ops",), {}, 2), (("sales",), {2: 1}, 0), (("sales",), {}, 1)]
        self.assertEqual(rows, wanted)
        rows = self.weights("select count from staff by id")
        self.assertEqual(rows, [((1,), {}, 1), ((2,), {}, 1), ((3,), {}, 1)])
        rows = self.weights("select count from staff by age")
        self.assertEqual(rows, [((-5,), {}, 1), ((30,), {}, 2)])
        rows = self.weights("select count from staff by dept, id, dept")
        self.assertEqual([labels for labels, _, _ in rows], [("ops", 1, "ops"), ("ops", 3, "ops"), ("sales", 2, "sales")])
        rows = self.weights("select count from units by name")
        self.assertEqual([labels for labels, _, _ in rows], [("",), ("ops",)])

    def test_labels_by_value_and_by_characters(self):
        tables = Tables()
        tables.add_table("t", (("n", "int"), ("w", "word")), ("x",))
        words = ("b", "a", "Z", "ab", "", "~", " ")
        for number, word in zip((10, 9, -1, -10, 100, 0, 2), words):
            tables.add_row("t", (number, word))
        labels = [row[0] for row in self.rows("select count from t by n", tables)]
        self.assertEqual(labels, [(-10,), (-1,), (0,), (2,), (9,), (10,), (100,)])
        labels = [row[0] for row in self.rows("select count from t by w", tables)]
        self.assertEqual(labels, [("",), (" ",), ("Z",), ("a",), ("ab",), ("b",), ("~",)])

    def test_no_rows(self):
        self.assertEqual(self.weights("select count, sum(pay + 3) from staff where id = 9"), [((), {}, 0), ((), {}, 0)])
        self.assertEqual(self.weights("select count, sum(pay) from staff where id = 9 by dept"), [])
        self.assertEqual(self.weights("select count from staff at day 0, late at day 1"), [((), {}, 0)])

    def test_forms_without_cells(self):
        tables = Tables()
        tables.add_table("t", (("n", "int"),), ("x",))
        self.assertEqual(self.rows("select count, sum(x), sum(3) from t", tables), [((), (0,), 0)] * 3)
        self.assertEqual(self.rows("select count from t by n", tables), [])
        self.assertEqual(evaluated(parse("select sum(x) from t"), tables, (0,)), [((), 0)])

    def test_two_sources(self):
        text = "select sum(pay - 2 * cost), count from staff, units where dept = name"
        self.assertEqual(self.weights(text), [((), {0: 1, 6: 1, 4: -4}, 100), ((), {}, 2)])
        text = "select sum(a.pay), count from staff as a, staff as b where a.id < b.id by b.id"
        wanted = [((2,), {0: 1}, 100), ((2,), {}, 1), ((3,), {0: 1, 2: 1}, 100), ((3,), {}, 2)]
        self.assertEqual(self.weights(text), wanted)

    def test_what_a_source_is_called(self):
        for text in ("select sum(staff.pay) from staff", "select sum(s.pay) from staff as s",
                     "select sum(units.pay) from staff as units",
                     "select sum(units.pay) from staff as units, late where late.id = 1"):
            self.assertEqual(self.weights(text), [((), {0: 1, 2: 1, 6: 1}, 100)], text)
        text = "select sum(units.pay - staff.cost) from staff as units, units as staff where units.id = staff.id"
        self.assertEqual(self.weights(text), [((), {0: 1, 2: 1, 4: -1, 8: -1}, 100)])

    def test_conditions(self):
        for condition, ids in (
            ("id = 1", [1]), ("id != 1", [2, 3]), ("id < 2", [1]), ("id <= 2", [1, 2]), ("id > 2", [3]),
            ("id >= 2", [2, 3]), ("2 < id", [3]), ("1 = 1", [1, 2, 3]), ("1 != 1", []), ("age = -5", [2]),
            ("-5 = age", [2]), ('dept = "ops"', [1, 3]), ('dept != "ops"', [2]), ("dept in (\"a\", \"sales\")", [2]),
            ("age in (1, 30, 2)", [1, 3]), ("age in (1, -30)", []), ("3 in (1, 3)", [1, 2, 3]), ("age = id", []),
            ("not id = 1", [2, 3]), ("not not id = 1", [1]), ("id = 1 or id = 3", [1, 3]),
            ("id = 1 and age = 30", [1]), ("id = 1 or id = 2 and age = 30", [1]),
            ("(id = 1 or id = 2) and age = -5", [2]), ("not (id = 1 or id = 2)", [3]),
            ("not id = 1 and not id = 2", [3]), ('"a" = "a"', [1, 2, 3]), ('"a" != "a"', []), ("dept = dept", [1, 2, 3]),
            ("id >= 2 and id <= 2 or id = 1", [1, 2]), ("staff.id = 2", [2]),
        ):
            labels = [row[0] for row in self.rows(f"select count from staff where {condition} by id")]
            self.assertEqual(labels, [(row,) for row in ids], condition)

    def test_sums(self):
        for text, weights, constant in (
            ("pay", {2: 1}, 0), ("-pay", {2: -1}, 0), ("--pay", {2: 1}, 0), ("pay + debt", {2: 1, 5: 1}, -7),
            ("pay - debt", {2: 1, 5: -1}, 7), ("-(pay - debt)", {2: -1, 5: 1}, -7), ("3", {}, 3), ("age", {}, -5),
            ("id", {}, 2), ("3 * debt", {5: 3}, -21), ("debt * age", {5: -5}, 35), ("-2 * debt * -3", {5: 6}, -42),
            ("(pay + 1) * (id + 3)", {2: 5}, 5), ("pay - pay", {}, 0), ("0 * pay", {}, 0), ("2 - 3 - 4", {}, -5),
            ("2 - (3 - 4)", {}, 3), ("2 + 3 * 4", {}, 14), ("(2 + 3) * 4", {}, 20), ("99 * pay", {2: 99}, 0),
            ("-99 * pay", {2: -99}, 0), ("1000 * pay - 950 * pay", {2: 50}, 0), ("age * age * age", {}, -125),
            ("(pay - pay) * 999999", {}, 0), ("(debt - debt + 2) * 3", {}, 6), ("999999 * 999999", {}, 999998000001),
        ):
            rows = self.weights(f"select sum({text}) from staff where id = 2")
            self.assertEqual(rows, [((), weights, constant)], text)

    def test_offsets_in_products(self):
        # The cell is the same on both days, the offset is not: only the difference is left.
        text = "select sum((a.pay - b.pay) * 3) from staff as a, staff at day 0 as b where a.id = 1 and b.id = 1"
        self.assertEqual(self.weights(text), [((), {}, 300)])

    def test_several_results_in_order(self):
        rows = self.weights("select sum(pay), count, sum(2), sum(-pay) from staff by age")
        self.assertEqual([row[0] for row in rows], [(-5,)] * 4 + [(30,)] * 4)
        self.assertEqual([row[2] for row in rows], [0, 1, 2, 0, 100, 2, 4, -100])

    def test_against_worlds(self):
        chance = random.Random(5)
        for text in self.many_queries(chance, 400):
            query = parse(text)
            rows = compiled(query, self.tables)
            self.assertEqual(rows, model.forms(query, self.tables), text)
            world = tuple(chance.randint(-10 ** 30, 10 ** 30) for _ in range(self.tables.cells()))
            self.assertEqual(evaluated(query, self.tables, world), model.answers(query, self.tables, world), text)
            self.assertEqual(evaluated(query, self.tables, list(world)), [
                (labels, value(form, world) + constant) for labels, form, constant in rows
            ])

    def many_queries(self, chance, times):
        """Texts of queries of all forms, all of them without errors."""
        def linear(depth):
            kind = chance.randrange(7) if depth else 0
            if kind == 0:
                return chance.choice(("pay", "debt", "s.pay", "s.debt", "3"))
            if kind == 1:
                return f"-{linear(depth - 1)}"
            if kind in (2, 3):
                return f"({linear(depth - 1)} {chance.choice('+-')} {linear(depth - 1)})"
            if kind == 4:
                return f"({linear(depth - 1)} + {fixed(depth - 1)})"
            factors = [f"({linear(depth - 1)})", f"({fixed(depth - 1)})"]
            return " * ".join(factors if kind == 5 else factors[::-1])

        def fixed(depth):
            kind = chance.randrange(4) if depth else chance.randrange(2)
            if kind == 0:
                return chance.choice(("0", "1", "2", "7", "-3"))
            if kind == 1:
                return chance.choice(("s.id", "age", "-age", "1"))
            return f"({fixed(depth - 1)} {chance.choice('+-*')} {fixed(depth - 1)})"

        def condition(depth):
            kind = chance.randrange(6) if depth else 0
            if kind in (0, 1):
                return chance.choice((
                    "s.id = 1", "age != 30", "s.id < 3", "2 <= s.id", "s.id > age", "age >= 0", 'dept = "ops"',
                    'dept != "sales"', "s.id in (1, 2)", 'dept in ("ops", "")', '"a" = dept', "age = -5",
                ))
            if kind == 2:
                return f"not {condition(0)}"
            if kind == 3:
                return f"not ({condition(depth - 1)})"
            return f"({condition(depth - 1)}) {'and' if kind == 4 else 'or'} {condition(depth - 1)}"

        made = 0
        while made < times:
            results = [chance.choice(("count", f"sum({linear(2)})", f"sum({fixed(2)})")) for _ in range(2)]
            text = f"select {', '.join(results)} from staff{chance.choice(('', ' at day 0', ' at day 1'))} as s"
            text += chance.choice(("", "", ", units", ", units at day 1", ", late as l"))
            if chance.randrange(3):
                text += f" where {condition(2)}"
            text += chance.choice(("", "", " by dept", " by age, s.id", " by s.dept, dept"))
            if all(-99 <= w <= 99 for _, form, _ in model.forms(parse(text), self.tables) for w in form):
                made += 1
                yield text

    def test_deep_trees(self):
        for text in (
            "select sum(" + "+".join(["pay"] * 99) + ") from staff where id = 1",
            "select sum(" + "1*" * 180 + "pay) from staff where id = 1",
            "select sum(" + "(" * 39 + "pay" + ")" * 39 + ") from staff where id = 1",
            "select sum(" + "-" * 40 + "pay) from staff where id = 1",
            "select sum(pay) from staff where " + "not " * 40 + "id = 1",
            "select sum(pay) from staff where id = 1" + " or 1=2" * 50,
            "select sum(pay) from staff where id = 1" + " and 1<2" * 45,
        ):
            for query in (parse(text), parse(written(parse(text))), listed(parse(text))):
                weight = 99 if "+" in text else 1
                self.assertEqual(compiled(query, self.tables), [((), (weight,) + (0,) * 9, weight * 100)], text)

    def test_lists_keywords_and_arguments_stay(self):
        text = 'select sum(2 * pay), count from staff as s where dept in ("ops", "a") and not s.id = 1 by s.id, dept'
        query = listed(parse(text))
        before, twin = copy.deepcopy(query), self.tables.copy()
        first = compiled(tables=self.tables, query=query)
        self.assertEqual(first, model.forms(parse(text), self.tables))
        for labels, form, _ in first:
            self.assertIsInstance(labels, tuple)
            self.assertIsInstance(form, tuple)
        kept = list(first)
        first.append(None)
        first[0] = None
        self.assertEqual(compiled(query, self.tables), kept)
        world = list(range(self.tables.cells()))
        found = evaluated(world=world, tables=self.tables, query=query)
        kept = list(found)
        found.clear()
        self.assertEqual(evaluated(query, self.tables, tuple(world)), kept)
        self.assertEqual((query, world), (before, list(range(10))))
        self.assertTrue(self.tables == twin)

    def test_any_positions(self):
        query = parse("select sum(pay) from staff where id = 1 by dept")
        self.assertEqual(compiled(self.moved(query, -7), self.tables), compiled(query, self.tables))

    def moved(self, part, position):
        """The query with this position for all columns."""
        if isinstance(part, tuple) and len(part) == 4 and part[0] == "column":
            return part[:3] + (position,)
        if isinstance(part, tuple):
            return tuple(self.moved(inner, position) for inner in part)
        return part


class ErrorTest(unittest.TestCase):
    def setUp(self):
        self.tables = sample()

    def fails(self, reason, position, text, query=None):
        """The position is a number, or what the text has there."""
        query = parse(text) if query is None else query
        if isinstance(position, str):
            self.assertEqual(text.count(position), 1, text)
            position = text.index(position)
        twin = self.tables.copy()
        for call in (lambda: compiled(query, self.tables), lambda: evaluated(query, self.tables, (0,) * 10),
                     lambda: compiled(listed(query), self.tables)):
            with self.assertRaises(QueryError) as caught:
                call()
            self.assertIsInstance(caught.exception, HushError)
            self.assertEqual(vars(caught.exception), {"reason": reason, "position": position}, text)
        self.assertTrue(self.tables == twin)

    def test_day_and_table(self):
        self.fails("day", 0, "select count from staff at day 3")
        self.fails("day", 0, "select count from nowhere at day 3")
        self.fails("day", 1, "select count from staff, nowhere at day 999999")
        self.fails("day", 0, "select count from staff at day 3, nowhere")
        self.fails("day", 1, "select count from staff, late at day 3 as staff")
        self.fails("table", 0, "select count from nowhere")
        self.fails("table", 0, "select count from nowhere, staff at day 3")
        self.fails("table", 0, "select count from late at day 0")
        self.fails("table", 1, "select count from staff, late at day 0")
        self.fails("table", 1, "select sum(x) from staff, nowhere as staff where y = 1")
        self.fails("table", 0, "select count from s as staff, staff")

    def test_alias(self):
        self.fails("alias", 1, "select count from staff, staff")
        self.fails("alias", 1, "select count from staff as a, staff as a")
        self.fails("alias", 1, "select count from staff, units as staff")
        self.fails("alias", 1, "select count from staff as units, units")
        self.fails("alias", 1, "select sum(nothing) from staff, staff at day 0 where pay = 1")

    def test_column(self):
        self.fails("column", "nothing", "select sum(nothing) from staff")
        self.fails("column", "s.pay", "select sum(s.pay) from staff")
        self.fails("column", "staff.", "select sum(staff.pay) from staff as s")
        self.fails("column", "cost", "select sum(cost) from staff")
        self.fails("column", "units.pay", "select sum(units.pay) from staff, units")
        self.fails("column", "nothing", "select count from staff where nothing = 1")
        self.fails("column", "nothing", "select count from staff where nothing in (1)")
        self.fails("column", "nothing", "select count from staff by age, nothing")
        self.fails("column", "one", "select sum(one + two), sum(three) from staff where four = 1 by five")
        self.fails("column", "two", "select sum(pay) from staff where 1 = two by three")
        # Closed columns, kinds and products that are wrong as well come later.
        self.fails("column", "zero", "select sum(dept * pay * pay) from staff where pay = 1 and dept < 1 by zero")

    def test_ambiguous(self):
        self.fails("ambiguous", "id", "select sum(id) from staff, units")
        self.fails("ambiguous", "pay", "select sum(pay) from staff as a, staff as b")
        self.fails("ambiguous", "id", "select count from staff, units by id")
        self.fails("ambiguous", "dept", 'select count from staff as a, staff as b where dept = "a" by a.id')
        self.fails("ambiguous", "age", "select sum(a.pay * b.pay) from staff as a, staff as b where a.pay = age by id")
        self.fails("column", "nothing", "select sum(id) from staff, units where nothing = 1")

    def test_closed(self):
        self.fails("closed", "pay", "select count from staff where pay = 1")
        self.fails("closed", "debt", "select count from staff where 1 in (1) and not debt in (1)")
        self.fails("closed", "debt", "select sum(pay) from staff by id, debt")
        self.fails("closed", "s.debt", "select count from staff as s where id = 1 and 1 < s.debt by pay")
        self.fails("closed", "debt", "select sum(dept * pay * pay) from staff where age = \"a\" and debt = 1")

    def test_kind(self):
        for comparison, at in (
            ("age = \"a\"", "age"), ("\"a\" = age", "age"), ("dept = 1", "dept"), ("dept != id", "dept"),
            ("dept < \"a\"", "dept"), ("\"a\" < dept", "dept"), ("1 <= dept", "dept"), ("dept > age", "dept"),
            ("age >= dept", "age"), ("age in (1, \"a\")", "age"), ("dept in (1)", "dept"), ("dept in (\"a\", 1)", "dept"),
        ):
            self.fails("kind", at, f"select count from staff where {comparison}")
            self.fails("kind", at, f"select count from staff where not ({comparison}) and 1 = 1")
        for comparison in ('1 = "a"', '"a" != 1', '"a" < "b"', '1 < "a"', '1 in (1, "a")', '"a" in (1)'):
            self.fails("kind", -1, f"select count from staff where {comparison}")
            self.fails("kind", -1, f"select sum(dept) from staff where dept = 1 or {comparison}")
        self.fails("kind", "dept", "select sum(dept) from staff")
        self.fails("kind", "s.dept", "select sum(pay), sum(2 * (3 - s.dept)) from staff as s")
        text = "select sum(pay) from staff where id = 1 and age = dept or id = dept"
        self.fails("kind", "age", text)
        self.fails("kind", 11, "select sum(dept) from staff where dept = 1")
        self.fails("kind", 30, "select count from staff where dept = 1 and dept = 2")

    def test_linear(self):
        self.fails("linear", 11, "select sum(pay * pay) from staff")
        self.fails("linear", 11, "select sum(age * pay * debt) from staff")
        self.fails("linear", 12, "select sum((age + pay) * (debt - 1)) from staff")
        self.fails("linear", "pay", "select sum(2 * (pay - 3) * (1 + debt)) from staff")
        self.fails("linear", 18, "select sum(age + (pay - pay) * pay) from staff")
        self.fails("linear", 18, "select count, sum(pay * (0 * debt)) from staff where 1 = 2")
        self.fails("linear", 11, "select sum(pay * debt), sum(pay * pay) from staff")
        self.fails("linear", "debt", "select sum(age * pay - age), sum(2 * debt * -(3 + pay)) from staff")
        self.fails("linear", 11, "select sum(pay * pay) from staff where id = 99 by id")
        self.fails("linear", 11, "select sum(pay * (1000 * debt)) from staff")

    def test_weight(self):
        for weight in (100, 101, 999999):
            self.fails("weight", -1, f"select sum({weight} * pay) from staff")
            self.fails("weight", -1, f"select sum(-{weight} * pay) from staff where id = 1")
        for weight in (0, 1, 98, 99):
            query = parse(f"select sum({weight} * pay), sum(-{weight} * pay) from staff where id = 2")
            self.assertEqual([row[1][2] for row in compiled(query, self.tables)], [weight, -weight])
        # The weights of all combined rows of a group are added up.
        text = "select sum(34 * pay) from staff, units where units.id = 1"
        self.assertEqual(compiled(parse(text), self.tables)[0][1][0], 34)
        self.fails("weight", -1, "select sum(50 * pay) from staff, units")
        self.fails("weight", -1, "select sum(50 * a.pay) from staff as a, staff as b by a.dept")
        self.assertEqual(len(compiled(parse("select sum(50 * a.pay) from staff as a, staff as b by b.id"), self.tables)), 3)
        self.assertEqual(compiled(parse("select sum(100 * pay) from staff where id = 9"), self.tables)[0][1], (0,) * 10)

    def test_least_positions(self):
        def column(name, position):
            return "column", None, name, position

        def query(*columns):
            sums = tuple(("sum", part) for part in columns)
            return "query", sums, (("staff", None, None),), None, ()
        self.fails("column", 3, "", query(column("x", 5), column("y", 3), column("pay", 1)))
        self.fails("kind", 2, "", query(column("dept", 5), column("dept", 2)))
        # -1 is less than all other positions, whatever they are.
        self.fails("column", -1, "", query(column("x", -5), column("y", -1)))
        self.fails("column", -5, "", query(column("x", -5), column("y", -3)))


if __name__ == "__main__":
    unittest.main()
