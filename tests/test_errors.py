import copy
import unittest

from hushgrain import errors
from hushgrain.errors import HushError

FIELDS = [
    ("ZeroBottom", ()),
    ("NotInside", ()),
    ("BadSize", ("found",)),
    ("BadForm", ("form",)),
    ("BadModulus", ("modulus",)),
    ("BadCells", ("found",)),
    ("NotKept", ("index",)),
    ("BadSchema", ("part",)),
    ("Duplicate", ("name",)),
    ("UnknownTable", ("name",)),
    ("UnknownRow", ("row",)),
    ("UnknownColumn", ("column",)),
    ("UnknownDay", ("number",)),
    ("BadTags", ("position",)),
    ("BadValues", ("position",)),
    ("TooMany", ("kind",)),
    ("QuerySyntax", ("position",)),
    ("QueryError", ("reason", "position")),
    ("BadName", ("name",)),
    ("UnknownReader", ("name",)),
    ("BadGroup", ()),
    ("UnknownGroup", ("group",)),
    ("UnknownSecret", ("name",)),
    ("BadMargin", ("margin",)),
    ("NotSingle", ()),
    ("Exposed", ("name", "instance", "group", "known")),
    ("BadEntry", ("index",)),
    ("NotClean", ("index",)),
    ("BadSet", ("chosen",)),
    ("NotGrantable", ("conflict",)),
    ("Grantable", ("chosen",)),
    ("UnknownReservation", ("number",)),
    ("UnknownWord", ("word",)),
    ("NoForgetting", ()),
    ("BadLine", ("line",)),
]

# Pairs: what is passed, what the attribute is.
VALUES = [
    (0, 0),
    (-7, -7),
    (10 ** 299, 10 ** 299),
    ("", ""),
    ("a text", "a text"),
    (True, True),
    (False, False),
    (None, None),
    ((), ()),
    ([], ()),
    ((1, "a", None), (1, "a", None)),
    ([1, True, "a"], (1, True, "a")),
    ([[1, 2], [3, [4, []]]], ((1, 2), (3, (4, ())))),
    (([1], (2, [3, ([False],)])), ((1,), (2, (3, ((False,),))))),
    ([((None, "b"), [0])], (((None, "b"), (0,)),)),
]


def same(one, other):
    """Compare with True and 1 told apart, as == does not."""
    return repr(one) == repr(other)


class ClassesTest(unittest.TestCase):
    def test_hush_error_is_a_value_error(self):
        self.assertEqual(HushError.__bases__, (ValueError,))

    def test_every_class_is_a_direct_subclass(self):
        for name, _ in FIELDS:
            self.assertEqual(getattr(errors, name).__bases__, (HushError,), name)

    def test_there_are_no_other_classes(self):
        found = [thing.__name__ for thing in vars(errors).values() if isinstance(thing, type)]
        self.assertEqual(found, ["HushError"] + [name for name, _ in FIELDS])

    def test_raised_and_caught_as_each_base(self):
        for name, fields in FIELDS:
            for base in (getattr(errors, name), HushError, ValueError):
                with self.assertRaises(base):
                    raise getattr(errors, name)(*fields)

    def test_wrong_number_of_fields(self):
        for name, fields in FIELDS:
            with self.assertRaises(TypeError):
                getattr(errors, name)(*fields, 0)


class FieldsTest(unittest.TestCase):
    def test_every_value_in_every_field(self):
        for name, fields in FIELDS:
            for shift in range(len(VALUES)):
                chosen = [VALUES[(shift + k) % len(VALUES)] for k in range(len(fields))]
                error = getattr(errors, name)(*[passed for passed, _ in chosen])
                wanted = {field: kept for field, (_, kept) in zip(fields, chosen)}
                self.assertTrue(same(vars(error), wanted), (name, vars(error), wanted))

    def test_by_keyword(self):
        for name, fields in FIELDS:
            passed = {field: [field, [k]] for k, field in enumerate(fields)}
            error = getattr(errors, name)(**passed)
            for k, field in enumerate(fields):
                self.assertEqual(getattr(error, field), (field, (k,)))

    def test_errors_do_not_disturb_one_another(self):
        alive = [(getattr(errors, name), fields, []) for name, fields in FIELDS]
        for number in range(3):
            for made, fields, kept in alive:
                kept.append(made(*[[number, field] for field in fields]))
        for _, fields, kept in alive:
            for number, error in enumerate(kept):
                self.assertEqual(vars(error), {field: (number, field) for field in fields})

    def test_passed_things_stay_and_later_changes_have_no_effect(self):
        for name, fields in FIELDS:
            inner = [1, 2]
            passed = [[field, inner, (inner, [])] for field in fields]
            before = copy.deepcopy(passed)
            error = getattr(errors, name)(*passed)
            self.assertTrue(same(passed, before))
            inner.append(3)
            for thing in passed:
                thing[0] = "changed"
                thing[2][1].append(4)
                thing.append(5)
            wanted = {field: (field, (1, 2), ((1, 2), ())) for field in fields}
            self.assertEqual(vars(error), wanted, name)
            for thing in error.args:
                self.assertIsInstance(thing, str)

    def test_a_list_twice_within_a_field(self):
        row = [1]
        error = errors.BadForm([row, row, (row,)])
        self.assertEqual(error.form, ((1,), (1,), ((1,),)))

    def test_nesting_deeper_than_calls_can_be(self):
        thing = []
        for _ in range(20000):
            thing = [thing]
        kept = errors.BadSet(thing).chosen
        depth = 0
        while kept:
            self.assertIsInstance(kept, tuple)
            kept = kept[0]
            depth += 1
        self.assertEqual((kept, depth), ((), 20000))


if __name__ == "__main__":
    unittest.main()
