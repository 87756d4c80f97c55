import importlib
import inspect
import types
import unittest

LANDED = {
    "numbers": [
        "gcd_of(numbers)",
        "divisors(number)",
        "fraction(top, bottom=1)",
        "add_fractions(one, other)",
        "multiply_fractions(one, other)",
    ],
    "forms": [
        "is_form(thing, size)",
        "dot(form, vector)",
        "add_forms(one, other)",
        "scale_form(factor, form)",
    ],
    "lattice": [
        "hermite(rows, size)",
        "whole(size)",
        "is_basis(thing, size)",
        "coordinates(basis, vector)",
        "contains(basis, vector)",
        "includes(basis, other)",
        "join_of(one, other, size)",
        "meet_of(one, other, size)",
        "grain_of(basis, form)",
        "solve(basis, form, value)",
        "restrict(basis, form, modulus)",
        "image_of(basis, matrix, size)",
        "preimage_of(basis, matrix)",
        "project(basis, columns)",
        "saturation(basis, size)",
        "class_count(basis, other)",
    ],
    "knowledge": ["Knowledge(size, observations=())"],
    "witnesses": [
        "known_witness(knowledge, form)",
        "world_witness(knowledge, form, amount)",
        "is_known_witness(knowledge, form, grain, thing)",
        "is_world_witness(knowledge, form, amount, thing)",
    ],
    "guards": [
        "holds(guard)",
        "keep_witness(guard)",
        "is_safe(guards, form, modulus)",
        "safe_divisors(guards, form, bound)",
        "finest_modulus(guards, form, bound)",
        "break_of(guards, form, modulus)",
        "is_break(guards, form, modulus, thing)",
    ],
    "tables": ["Tables()"],
    "lexer": ["tokens(text)"],
    "parser": ["parse(text)", "written(query)"],
    "compiler": ["compiled(query, tables)", "evaluated(query, tables, world)"],
    "house": ["House(*, modulus=5040)"],
    "audit": ["audit(policy, history)", "audit_paper(policy, history)", "paper_holds(policy, history, thing)"],
    "wishes": [
        "is_grantable(house, wishes, chosen)",
        "maximal_sets(house, wishes)",
        "conflicts(house, wishes)",
        "best_set(house, wishes, values)",
        "grant_witness(house, wishes, chosen)",
        "conflict_witness(house, wishes, chosen)",
        "is_grant_witness(house, wishes, chosen, thing)",
        "is_conflict_witness(house, wishes, chosen, thing)",
    ],
    "represent": [
        "represented(basis, word, size)",
        "basis_of(representation, size)",
        "is_representation(thing, size)",
        "observed(representation, form, modulus, size)",
        "grain_in(representation, form, size)",
        "Engine(word, size)",
    ],
    "reshape": [
        "pulled(form, matrix)",
        "refined(knowledge, matrix)",
        "carried_witness(witness, matrix)",
        "split_matrix(size, cell, parts)",
        "unit_matrix(size, cell, factor)",
        "order_matrix(places)",
        "matrix_product(first, second)",
        "is_forgetting(matrix, size)",
        "forgotten(basis, matrix, size)",
        "surviving(form, matrix, size)",
        "join_matrix(size, cells)",
        "drop_matrix(size, cell)",
        "observations_for(basis, size)",
    ],
    "desk": ["Desk(*, modulus=5040)"],
}

METHODS = {
    ("knowledge", "Knowledge"): [
        "size()",
        "observations()",
        "basis()",
        "grain(form)",
        "follows(form, modulus)",
        "observe(form, modulus)",
        "joined(other)",
        "knows(other)",
        "spare()",
        "about(cells)",
        "__len__()",
        "__eq__(other)",
    ],
    ("tables", "Tables"): [
        "cells()",
        "day()",
        "add_table(name, tags, closed)",
        "add_row(table, tags)",
        "remove_row(table, row)",
        "set_tag(table, row, column, tag)",
        "shift(table, row, column, amount)",
        "change(table, row, column)",
        "next_day()",
        "rows(table, day=None)",
        "schema(table)",
        "copy()",
        "__eq__(other)",
    ],
    ("house", "House"): [
        "add_table(name, tags, closed)",
        "add_row(table, tags, values)",
        "remove_row(table, row)",
        "set_tag(table, row, column, tag)",
        "shift(table, row, column, amount)",
        "change(table, row, column, value)",
        "next_day()",
        "tables()",
        "world()",
        "add_reader(name)",
        "readers()",
        "add_group(readers)",
        "drop_group(readers)",
        "groups()",
        "knowledge(readers)",
        "add_secret(name, query, margin, cleared=())",
        "drop_secret(name)",
        "clear(name, reader)",
        "unclear(name, reader)",
        "secrets()",
        "guards()",
        "ask(reader, query)",
        "would(reader, query)",
        "publish(query)",
        "transcript(readers)",
        "why(reader, query, modulus)",
        "history()",
        "policy()",
        "reserve(reader, form)",
        "release(number)",
        "reservations()",
        "copy()",
    ],
    ("represent", "Engine"): [
        "observe(form, modulus)",
        "grain(form)",
        "basis()",
        "state()",
        "switch(word)",
        "copy()",
        "__eq__(other)",
    ],
    ("desk", "Desk"): ["tell(line)", "house()"],
}


class InterfaceTest(unittest.TestCase):
    def test_names_and_arguments(self):
        for file, signatures in LANDED.items():
            module = importlib.import_module("hushgrain." + file)
            for signature in signatures:
                name = signature[:signature.index("(")]
                thing = getattr(module, name)
                self.assertEqual(thing.__module__, module.__name__)
                self.assertEqual(name + str(inspect.signature(thing)), signature)

    def test_methods_and_arguments(self):
        for (file, name), signatures in METHODS.items():
            made = getattr(importlib.import_module("hushgrain." + file), name)
            for signature in signatures:
                method = vars(made)[signature[:signature.index("(")]]
                self.assertIsInstance(method, types.FunctionType)
                shown = str(inspect.signature(method)).replace("(self, ", "(").replace("(self)", "()")
                self.assertEqual(method.__name__ + shown, signature)

    def test_houses_and_desks_are_compared_by_identity(self):
        for file, name in (("house", "House"), ("desk", "Desk")):
            made = getattr(importlib.import_module("hushgrain." + file), name)
            self.assertNotIn("__eq__", vars(made))
            one, other = made(), made()
            self.assertTrue(one == one and one != other)

    def test_errors_stand_in_their_file(self):
        module = importlib.import_module("hushgrain.errors")
        for thing in vars(module).values():
            if isinstance(thing, type):
                self.assertEqual(thing.__module__, "hushgrain.errors")


if __name__ == "__main__":
    unittest.main()
