"""Every call of the interface: by position and by keyword, twice, with lists for tuples; what is passed stays."""

import copy
import importlib
import inspect
import unittest

from hushgrain.audit import audit_paper
from hushgrain.desk import Desk
from hushgrain.house import House
from hushgrain.knowledge import Knowledge
from hushgrain.parser import parse
from hushgrain.represent import Engine
from hushgrain.tables import Tables
from hushgrain.wishes import conflict_witness, grant_witness
from houses import state
from support import listed
from test_interface import LANDED, METHODS

ONE = "select sum(x) from t where id = 1"
TWO = "select sum(x) from t where id = 2"
QUERY = parse("select sum(2 * x), count from t where id in (1, 2) by id, a")
KNOWN = Knowledge(2, [((1, 1), 6)])
GUARDS = [[KNOWN, [1, 0], 12]]
BASIS = ((2, 1), (0, 3))
MATRIX = ((1, 0), (1, 0), (0, 1))
POLICY = (2, 12, ("ann",), (), (("s", (1, 0), 4, ()),))
HISTORY = (("ann", (1, 1), 0), ("ann", (0, 1), 4), ("", (0, 0), 0))
WISHES = (("ann", (1, 1)), ("ann", (1, 0)))


def tables():
    made = Tables()
    made.add_table("t", (("a", "int"),), ("x",))
    made.add_row("t", (1,))
    made.add_row("t", (2,))
    made.next_day()
    return made


def house():
    made = House()
    made.add_table("t", (("a", "int"),), ("x",))
    made.add_row("t", (1,), (10,))
    made.add_row("t", (2,), (20,))
    for reader in ("ann", "bob", "cy"):
        made.add_reader(reader)
    made.add_secret("s", ONE, 4, ("bob",))
    made.add_group(("ann", "bob"))
    made.reserve("cy", (1, 1))
    made.ask("ann", TWO)
    return made


def engine():
    made = Engine("dual", 2)
    made.observe((1, 1), 6)
    return made


def desk():
    made = Desk()
    made.tell("table t a:int x")
    made.tell("row t 1 10")
    return made


HOUSE = house()
# What is passed to each function: tuples, as the document has them.
FUNCTIONS = {
    "gcd_of": ((4, 6),), "divisors": (12,), "fraction": (6, -4), "add_fractions": ((1, 2), (1, 3)),
    "multiply_fractions": ((1, 2), (2, 3)),
    "is_form": ((1, 2), 2), "dot": ((1, 2), (3, 4)), "add_forms": ((1, 2), (3, 4)), "scale_form": (3, (1, 2)),
    "hermite": (((4, 5), (2, 1), (0, 3)), 2), "whole": (3,), "is_basis": (BASIS, 2), "coordinates": (BASIS, (2, 7)),
    "contains": (BASIS, (2, 7)), "includes": (BASIS, ((2, 4), (0, 6))), "join_of": (BASIS, ((1, 1),), 2),
    "meet_of": (BASIS, ((5, 0), (0, 1)), 2), "grain_of": (BASIS, (1, 1)), "solve": (BASIS, (1, 1), 6),
    "restrict": (BASIS, (1, 2), 4), "image_of": (BASIS, ((1, 1), (0, 1)), 2), "preimage_of": (BASIS, MATRIX),
    "project": (BASIS, (1,)), "saturation": (((2, 2),), 2), "class_count": (((1, 0), (0, 1)), BASIS),
    "known_witness": (KNOWN, (2, 2)), "world_witness": (KNOWN, (1, 0), 5),
    "is_known_witness": (KNOWN, (1, 1), 6, ((0, 0), ((1, 1),))), "is_world_witness": (KNOWN, (1, 0), 5, (5, 1)),
    "holds": (GUARDS[0],), "keep_witness": (GUARDS[0],), "is_safe": (GUARDS, (0, 1), 4), "safe_divisors": (GUARDS, (0, 1), 60),
    "finest_modulus": (GUARDS, (0, 1), 60), "break_of": (GUARDS, (1, 0), 5),
    "is_break": (GUARDS, (1, 0), 5, (0, 5, ((0, 0), ((0, 1), (1, 1))))),
    "tokens": ("sum(pay)",), "parse": (TWO,), "written": (QUERY,), "compiled": (QUERY, tables()),
    "evaluated": (QUERY, tables(), (5, 6)),
    "audit": (POLICY, HISTORY), "audit_paper": (POLICY, HISTORY),
    "paper_holds": (POLICY, HISTORY, audit_paper(POLICY, HISTORY)),
    "is_grantable": (HOUSE, WISHES, (0,)), "maximal_sets": (HOUSE, WISHES), "conflicts": (HOUSE, WISHES),
    "best_set": (HOUSE, WISHES, (1, 2)), "grant_witness": (HOUSE, WISHES, ()), "conflict_witness": (HOUSE, WISHES, (1,)),
    "is_grant_witness": (HOUSE, WISHES, (), grant_witness(HOUSE, WISHES, ())),
    "is_conflict_witness": (HOUSE, WISHES, (1,), conflict_witness(HOUSE, WISHES, (1,))),
    "represented": (BASIS, "local", 2), "basis_of": (("dual", ((0, 1),), 2, ((1, 0),)), 2),
    "is_representation": (("primal", BASIS), 2), "observed": (("primal", BASIS), (1, 1), 6, 2),
    "grain_in": (("primal", BASIS), (1, 1), 2),
    "pulled": ((2, 3), MATRIX), "refined": (KNOWN, MATRIX), "carried_witness": (((1, 2), ((1, 3),)), MATRIX),
    "split_matrix": (2, 0, 2), "unit_matrix": (2, 0, 7), "order_matrix": ((1, 0),), "matrix_product": (MATRIX, BASIS),
    "is_forgetting": (MATRIX, 2), "forgotten": (((1, 0, 0), (0, 2, 0)), MATRIX, 2), "surviving": ((3, 3, 4), MATRIX, 2),
    "join_matrix": (3, (0, 2)), "drop_matrix": (2, 0), "observations_for": (BASIS, 2),
}

# Functions about any object: a list in the place of a tuple is another thing there.
ANY_OBJECT = (
    "is_form", "is_basis", "is_known_witness", "is_world_witness", "is_break", "paper_holds", "is_grant_witness",
    "is_conflict_witness", "is_representation",
)

METHOD_CALLS = {
    ("knowledge", "Knowledge"): (lambda: Knowledge(2, [((1, 1), 6)]), {
        "size": (), "observations": (), "basis": (), "grain": ((2, 2),), "follows": ((2, 2), 3), "observe": ((0, 1), 4),
        "joined": (Knowledge(2, [((1, 0), 0)]),), "knows": (KNOWN,), "spare": (), "about": ((0,),),
    }),
    ("tables", "Tables"): (tables, {
        "cells": (), "day": (), "add_table": ("u", (("w", "word"),), ("y", "z")), "add_row": ("t", (3,)),
        "remove_row": ("t", 1), "set_tag": ("t", 1, "a", 7), "shift": ("t", 1, "x", -7), "change": ("t", 1, "x"),
        "next_day": (), "rows": ("t", 0), "schema": ("t",), "copy": (),
    }),
    ("house", "House"): (house, {
        "add_table": ("u", (("w", "word"),), ("y", "z")), "add_row": ("t", (3,), (30,)), "remove_row": ("t", 1),
        "set_tag": ("t", 1, "a", 7), "shift": ("t", 1, "x", -7), "change": ("t", 1, "x", 9), "next_day": (), "tables": (),
        "world": (), "add_reader": ("dee",), "readers": (), "add_group": (("cy", "bob"),), "drop_group": (("bob", "ann"),),
        "groups": (), "knowledge": (("bob", "ann"),), "add_secret": ("r", ONE, 4, ("cy", "bob")), "drop_secret": ("s",),
        "clear": ("s", "ann"), "unclear": ("s", "bob"), "secrets": (), "guards": (), "ask": ("ann", "select sum(x) from t"),
        "would": ("ann", "select sum(x) from t"), "publish": ("select count from t",), "transcript": (("ann", "cy"),),
        "why": ("ann", ONE, 3), "history": (), "policy": (), "reserve": ("ann", (0, 3)), "release": (0,),
        "reservations": (), "copy": (),
    }),
    ("represent", "Engine"): (engine, {
        "observe": ((0, 1), 4), "grain": ((1, 1),), "basis": (), "state": (), "switch": ("local",), "copy": (),
    }),
    ("desk", "Desk"): (desk, {"tell": ("row t 5 6",), "house": ()}),
}


def shown(thing):
    """What can be seen of an object, as a text."""
    if isinstance(thing, House):
        return state(thing)
    if isinstance(thing, Desk):
        return state(thing.house())
    if isinstance(thing, Knowledge):
        return repr((thing.size(), thing.observations(), thing.basis()))
    if isinstance(thing, Engine):
        return repr(thing.state())
    if isinstance(thing, Tables):
        return repr((thing.cells(), thing.day(), thing.rows("t"), thing.rows("t", 0), thing.schema("t")))
    if isinstance(thing, (tuple, list)):
        return repr((type(thing).__name__, [shown(part) for part in thing]))
    return repr(thing)


class CallsTest(unittest.TestCase):
    def test_every_function_is_called(self):
        names = [signature[:signature.index("(")] for signatures in LANDED.values() for signature in signatures]
        called = list(FUNCTIONS) + [name for _, name in METHOD_CALLS]
        self.assertEqual(sorted(names), sorted(called))
        for key, signatures in METHODS.items():
            names = [signature[:signature.index("(")] for signature in signatures if not signature.startswith("__")]
            self.assertEqual(sorted(names), sorted(METHOD_CALLS[key][1]))

    def check(self, call, arguments, again):
        """Call by position, by keyword, and with lists; `call` and `again` give the function anew each time."""
        names = list(inspect.signature(call()).parameters)
        wanted = None
        for passed in (arguments, arguments, *([listed(arguments)] if again else [])):
            before = shown(passed)
            first = shown(call()(*passed))
            self.assertEqual(shown(call()(**dict(zip(names, passed)))), first)
            backwards = dict(list(zip(names, passed))[::-1])
            self.assertEqual(shown(call()(**backwards)), first)
            self.assertEqual(shown(passed), before)
            self.assertEqual(first if wanted is None else wanted, first)
            wanted = first

    def test_functions(self):
        for file, signatures in LANDED.items():
            module = importlib.import_module("hushgrain." + file)
            for signature in signatures:
                name = signature[:signature.index("(")]
                if name in FUNCTIONS:
                    self.check(lambda: getattr(module, name), FUNCTIONS[name], name not in ANY_OBJECT)

    def test_methods(self):
        for make, calls in METHOD_CALLS.values():
            for name, arguments in calls.items():
                self.check(lambda: getattr(make(), name), arguments, True)

    def test_the_same_change_makes_the_same_state(self):
        for make, calls in METHOD_CALLS.values():
            for name, arguments in calls.items():
                states = []
                for passed in (arguments, listed(arguments)):
                    made = make()
                    getattr(made, name)(*passed)
                    states.append(shown(made))
                self.assertEqual(states[0], states[1], name)

    def test_calls_that_only_tell_change_nothing(self):
        telling = {
            "Knowledge": METHOD_CALLS["knowledge", "Knowledge"][1], "Tables": ("cells", "day", "rows", "schema", "copy"),
            "Engine": ("grain", "basis", "state", "copy"), "Desk": ("house",),
            "House": ("tables", "world", "readers", "groups", "knowledge", "secrets", "guards", "would", "transcript", "why",
                      "history", "policy", "reservations", "copy"),
        }
        for (_, name), (make, calls) in METHOD_CALLS.items():
            made = make()
            before = shown(made)
            for method in telling[name]:
                first = getattr(made, method)(*calls[method])
                self.assertEqual(shown(getattr(made, method)(*calls[method])), shown(first))
                if isinstance(first, list):
                    kept = copy.copy(first)
                    first.append(None)
                    self.assertEqual(shown(getattr(made, method)(*calls[method])), shown(kept))
            self.assertEqual(shown(made), before)

    def test_constructors(self):
        self.assertEqual(shown(Knowledge(observations=[[[1, 1], 6]], size=2)), shown(KNOWN))
        self.assertEqual(shown(Engine(size=2, word="local")), shown(Engine("local", 2)))
        self.assertEqual(House(modulus=12).policy()[1], 12)
        self.assertEqual(Desk(modulus=12).house().policy()[1], 12)

    def test_functions_that_answer_about_any_object_tell_lists_from_tuples(self):
        for file, signatures in LANDED.items():
            module = importlib.import_module("hushgrain." + file)
            for signature in signatures:
                name = signature[:signature.index("(")]
                if name in ANY_OBJECT:
                    call, arguments = getattr(module, name), FUNCTIONS[name]
                    place = list(inspect.signature(call).parameters).index("thing")
                    self.assertIs(call(*arguments), True, name)
                    thing = listed(arguments[place])
                    self.assertIs(call(*arguments[:place], thing, *arguments[place + 1:]), False, name)
                    others = [listed(part) for part in arguments]
                    others[place] = arguments[place]
                    self.assertIs(call(*others), True, name)


if __name__ == "__main__":
    unittest.main()
