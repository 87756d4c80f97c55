import copy
import random
import unittest
from itertools import combinations

import model
from hushgrain.errors import (
    BadForm, BadSet, Grantable, HushError, NotGrantable, TooMany, UnknownReader,
)
from hushgrain.house import House
from hushgrain.knowledge import Knowledge
from hushgrain.wishes import (
    best_set, conflict_witness, conflicts, grant_witness, is_conflict_witness, is_grant_witness, is_grantable,
    maximal_sets,
)
from hushgrain.witnesses import is_known_witness, known_witness
from houses import READERS, played, random_form, random_values, script, state
from support import ODD_THINGS, changed_places, divides, frozen, listed, value


def example():
    """Two cells, the secret x with the margin 1, one reader."""
    house = House()
    house.add_table("t", (), ("x", "y"))
    house.add_row("t", (), (3, 4))
    house.add_reader("ann")
    house.add_secret("s", "select sum(x) from t", 1)
    return house


WISHES = (("ann", (1, 1)), ("ann", (0, 1)), ("ann", (1, 0)))


def behind(house, wishes, chosen):
    """(name, instance, group, guard) for every guard with these wishes granted, all knowledge built anew."""
    found = []
    for name, instance, group, (known, form, margin) in model.guards_of(house):
        seen = [(wishes[k][1], 0) for k in chosen if wishes[k][0] in group]
        found.append((name, instance, group, (Knowledge(known.size(), list(known.observations()) + seen), form, margin)))
    return found


def all_sets(count):
    return [chosen for many in range(count + 1) for chosen in combinations(range(count), many)]


def searched(house, wishes):
    """The grantable sets, by definition."""
    return [
        chosen for chosen in all_sets(len(wishes))
        if all(divides(known.grain(form), margin) for _, _, _, (known, form, margin) in behind(house, wishes, chosen))
    ]


def random_house(chance, times=25):
    house, _ = played(script(chance, times), random_values(chance))
    while len(house.readers()) < 3:
        house.add_reader([name for name in READERS if name not in house.readers()][0])
    return house


def random_wishes(chance, house, count):
    cells = len(house.world())
    forms = [random_form(chance, cells) for _ in range(count)]
    secrets = [form for _, _, _, instances in house.secrets() for form in instances]
    if secrets and count > 1:
        forms[0] = tuple(a - b for a, b in zip(chance.choice(secrets), forms[1]))
        forms[-1] = tuple(chance.choice((1, 2)) * weight for weight in chance.choice(secrets))
    return tuple((chance.choice(house.readers()[:2] * 2 + house.readers()), form) for form in forms)


class WishesTest(unittest.TestCase):
    def fails(self, house, error, fields, call, *arguments):
        before, given = state(house), repr(arguments)
        with self.assertRaises(HushError) as caught:
            call(house, *arguments)
        self.assertIs(caught.exception.__class__, error, arguments)
        self.assertEqual(repr(vars(caught.exception)), repr(fields))
        self.assertEqual((state(house), repr(arguments)), (before, given))


class SetsTest(WishesTest):
    def test_example(self):
        house = example()
        self.assertEqual(conflicts(house, WISHES), [(2,), (0, 1)])
        self.assertEqual(maximal_sets(house, WISHES), [(0,), (1,)])
        for chosen, wanted in (((), True), ((0,), True), ((1,), True), ((2,), False), ((0, 1), False), ((0, 2), False)):
            self.assertIs(is_grantable(house, WISHES, chosen), wanted)
            self.assertIs(is_grantable(house, listed(WISHES), list(chosen)), wanted)
        self.assertEqual(best_set(house, WISHES, (1, 1, 100)), (0,))
        self.assertEqual(best_set(house, WISHES, (1, 2, 100)), (1,))
        self.assertEqual(best_set(house, WISHES, (0, 0, 100)), ())

    def test_no_wishes(self):
        for house in (example(), House()):
            for wishes in ((), []):
                self.assertEqual(maximal_sets(house, wishes), [()])
                self.assertEqual(conflicts(house, wishes), [])
                self.assertEqual(best_set(house, wishes, ()), ())
                self.assertIs(is_grantable(house, wishes, ()), True)

    def test_no_guards(self):
        house = example()
        house.drop_secret("s")
        self.assertEqual(maximal_sets(house, WISHES), [(0, 1, 2)])
        self.assertEqual(conflicts(house, WISHES), [])
        self.assertEqual(best_set(house, WISHES, (1, 0, 1)), (0, 2))
        self.assertEqual(grant_witness(house, WISHES, (0, 1, 2)), ())
        self.assertIs(is_grant_witness(house, WISHES, (0, 1, 2), ()), True)

    def test_readers_and_groups(self):
        house = example()
        house.add_reader("bob")
        wishes = (("ann", (1, 1)), ("bob", (0, 1)))
        self.assertEqual(conflicts(house, wishes), [])
        house.add_group(("ann", "bob"))
        self.assertEqual(conflicts(house, wishes), [(0, 1)])
        house.clear("s", "bob")
        self.assertEqual(maximal_sets(house, wishes), [(0, 1)])
        house.drop_group(("bob", "ann"))
        house.unclear("s", "bob")
        house.ask("bob", "select sum(x + y) from t")
        self.assertEqual(conflicts(house, wishes), [(1,)])

    def test_publications_reservations_and_replaced_cells(self):
        house = example()
        house.publish("select sum(y) from t")
        self.assertEqual(conflicts(house, WISHES), [(0,), (2,)])
        self.assertEqual(maximal_sets(house, WISHES), [(1,)])
        house = example()
        house.reserve("ann", (1, 1))
        self.assertEqual(conflicts(house, WISHES), [(1,), (2,)])
        house.release(0)
        self.assertEqual(conflicts(house, WISHES), [(2,), (0, 1)])
        house.change("t", 1, "x", 9)
        wishes = [("ann", (1, 1, 0)), ("ann", (0, 1, 0)), ("ann", (0, 0, 1)), ("ann", (1, 0, 1)), ("ann", (1, 0, -1))]
        self.assertEqual(conflicts(house, wishes), [(2,), (0, 1), (3, 4)])
        self.assertEqual(maximal_sets(house, wishes), [(0, 3), (0, 4), (1, 3), (1, 4)])

    def test_against_a_search(self):
        chance = random.Random(1)
        many = 0
        for turn in range(70):
            house = random_house(chance)
            wishes = random_wishes(chance, house, chance.choice((1, 2, 3, 4, 4, 5, 6)))
            grantable = searched(house, wishes)
            sets = all_sets(len(wishes))
            for chosen in sets:
                self.assertIs(is_grantable(house, wishes, chosen), chosen in grantable)
            larger = [[g for g in grantable if len(g) > len(s) and set(g) >= set(s)] for s in grantable]
            self.assertEqual(maximal_sets(house, wishes), [s for s, more in zip(grantable, larger) if not more])
            wanted = [
                s for s in sets if s not in grantable
                and all(t in grantable for t in sets if set(t) < set(s))
            ]
            self.assertEqual(conflicts(house, wishes), wanted)
            many += len(wanted) > 1
            for reach in (1, 3, 10 ** 30):
                values = [chance.randint(0, reach) for _ in wishes]
                most = max(sum(values[k] for k in s) for s in grantable)
                best = [s for s in grantable if sum(values[k] for k in s) == most]
                self.assertEqual(best_set(house, wishes, values), best[0])
                self.assertEqual(best_set(house, listed(wishes), tuple(values)), best[0])
            if turn % 4 == 0:
                self.check_witnesses(house, wishes, grantable, wanted)
        self.assertGreater(many, 25)

    def check_witnesses(self, house, wishes, grantable, found):
        """Check the witnesses by sums and products alone."""
        for chosen in all_sets(len(wishes)):
            places = behind(house, wishes, chosen)
            if chosen in grantable:
                vectors = grant_witness(house, wishes, chosen)
                self.assertEqual(len(vectors), len(places))
                for vector, (_, _, group, (known, form, margin)) in zip(vectors, places):
                    self.assertEqual(value(form, vector), margin)
                    for asked, modulus in known.observations():
                        self.assertTrue(divides(modulus, value(asked, vector)))
                self.assertIs(is_grant_witness(house, wishes, chosen, vectors), True)
                self.fails(house, Grantable, {"chosen": chosen}, conflict_witness, wishes, chosen)
                self.fails(house, Grantable, {"chosen": chosen}, conflict_witness, wishes, list(chosen))
                continue
            first = [conflict for conflict in found if set(conflict) <= set(chosen)][0]
            self.fails(house, NotGrantable, {"conflict": first}, grant_witness, wishes, chosen)
            thing = conflict_witness(house, wishes, chosen)
            self.assertIsInstance(thing, tuple)
            index, grain, witness = thing
            broken = [k for k, place in enumerate(places) if not divides(place[3][0].grain(place[3][1]), place[3][2])]
            self.assertEqual(index, broken[0])
            known, form, _ = places[index][3]
            self.assertEqual(grain, known.grain(form))
            self.assertIs(is_known_witness(known, form, grain, witness), True)
            self.assertIs(is_conflict_witness(house, wishes, chosen, thing), True)
            for other in broken[1:]:
                known, form, _ = places[other][3]
                thing = (other, known.grain(form), known_witness(known, form))
                self.assertIs(is_conflict_witness(house, wishes, chosen, thing), True)

    def test_ties(self):
        house = example()
        wishes = (("ann", (0, 2)), ("ann", (1, 1)), ("ann", (0, 3)), ("ann", (0, 0)))
        self.assertEqual(conflicts(house, wishes), [(0, 1), (1, 2)])
        self.assertEqual(best_set(house, wishes, (1, 2, 1, 0)), (1,))
        self.assertEqual(best_set(house, wishes, (2, 2, 0, 0)), (0,))
        self.assertEqual(best_set(house, wishes, (0, 2, 2, 0)), (1,))
        self.assertEqual(best_set(house, wishes, (1, 2, 1, 1)), (1, 3))
        self.assertEqual(best_set(house, wishes, (1, 2, 2, 0)), (0, 2))
        self.assertEqual(best_set(house, wishes, (0, 0, 0, 0)), ())
        self.assertEqual(best_set(house, wishes, (0, 0, 0, 5)), (3,))

    def test_new_lists(self):
        house = example()
        for call in (maximal_sets, conflicts):
            shown = call(house, WISHES)
            kept = list(shown)
            shown.clear()
            self.assertEqual(call(house, WISHES), kept)

    def test_house_without_cells(self):
        house = House()
        house.add_reader("ann")
        self.assertEqual(maximal_sets(house, [["ann", [0]]]), [(0,)])
        self.fails(house, BadForm, {"form": (1,)}, conflicts, [["ann", [1]]])


class ErrorTest(WishesTest):
    def calls(self):
        """Every function, with what is passed behind the wishes."""
        return (
            (is_grantable, ((),)), (maximal_sets, ()), (conflicts, ()), (best_set, ((0,) * 9,)), (grant_witness, ((),)),
            (conflict_witness, ((),)), (is_grant_witness, ((), None)), (is_conflict_witness, ((), None)),
        )

    def test_wishes_in_order(self):
        house = example()
        for call, rest in self.calls():
            rest = tuple(([9] if part == () else part) for part in rest)
            self.fails(house, TooMany, {"kind": "wish"}, call, [("zed", None)] * 7, *rest)
            self.fails(house, UnknownReader, {"name": "zed"}, call, (WISHES[0], ("zed", None), ("abe", None)), *rest)
            self.fails(house, UnknownReader, {"name": ""}, call, [["", [1, 1]]], *rest)
            wishes = (WISHES[0], ["ann", [1]], ("zed", (1, 1)))
            self.fails(house, BadForm, {"form": (1,)}, call, wishes, *rest)
            for form in ODD_THINGS + ((1, True), (1,), (1, 2, 3), [None, 1]):
                if form != [1, 2]:
                    self.fails(house, BadForm, {"form": frozen(form)}, call, [("ann", form)], *rest)
            for reader in (None, True, 7, ("ann",), ["ann"]):
                self.fails(house, UnknownReader, {"name": frozen(reader)}, call, [(reader, None)], *rest)
        self.assertEqual(len(maximal_sets(house, WISHES + WISHES)), 2)

    def test_sets(self):
        house = example()
        for call in (is_grantable, grant_witness, conflict_witness, is_grant_witness, is_conflict_witness):
            rest = (None,) if call in (is_grant_witness, is_conflict_witness) else ()
            for chosen in ODD_THINGS + ((3,), (-1,), (0, 0), (1, 0), (0, 3), [0, 2, 1], (0, 1, 2, 3), (False,), (0, True),
                                        ("0",), (None,), ((0,),), "01", 10 ** 299):
                if chosen == () or chosen == [] or chosen == [1, 2]:
                    continue
                self.fails(house, BadSet, {"chosen": frozen(chosen)}, call, WISHES, chosen, *rest)
        self.fails(house, BadSet, {"chosen": (0,)}, is_grantable, (), (0,))

    def test_not_grantable_and_grantable(self):
        house = example()
        for chosen, conflict in (((2,), (2,)), ((0, 1), (0, 1)), ((0, 1, 2), (2,)), ((0, 2), (2,))):
            self.fails(house, NotGrantable, {"conflict": conflict}, grant_witness, WISHES, chosen)
        for chosen in ((), (0,), (1,)):
            self.fails(house, Grantable, {"chosen": chosen}, conflict_witness, WISHES, list(chosen))


class WitnessesTest(WishesTest):
    def setUp(self):
        self.house = example()
        self.house.ask("ann", "select sum(6 * x) from t")

    def test_example(self):
        self.assertEqual(self.house.history(), [("ann", (6, 0), 6)])
        # The guards are those of () and of ann; ann knows 6 x modulo 6, which tells nothing.
        self.assertIs(is_grant_witness(self.house, WISHES, (0,), ((1, 0), (1, -1))), True)
        for second, wanted in (((-1, 1), False), ((1, 0), False), ((1, -1), True)):
            self.assertIs(is_grant_witness(self.house, WISHES, (0,), ((1, 5), second)), wanted)
        # No vector is one for a set that is not grantable.
        for vectors in (((1, 0), (1, -1)), ((1, 0), (1, 0)), ((1, 0), (0, 0))):
            self.assertIs(is_grant_witness(self.house, WISHES, (0, 1), vectors), False)
            self.assertIs(is_grant_witness(self.house, WISHES, (2,), vectors), False)
        # x = (x + y) - y, so it is known exactly, and modulo every integer.
        for grain in (0, 2, 3, 10 ** 30):
            witness = ((0, 0), ((0, 1), (1, 1), (-1, 1)))
            self.assertIs(is_conflict_witness(self.house, WISHES, (0, 1), (1, grain, witness)), True)
            self.assertIs(is_conflict_witness(self.house, WISHES, (0, 1), (0, grain, witness)), False)
        self.assertIs(is_conflict_witness(self.house, WISHES, (0, 1), (1, 1, witness)), False)
        self.assertIs(is_conflict_witness(self.house, WISHES, (0, 1), (1, -2, witness)), False)

    def test_every_change_of_one_thing(self):
        thing = grant_witness(self.house, WISHES, (0,))
        self.assertIs(is_grant_witness(self.house, WISHES, (0,), thing), True)
        for other in changed_places(thing):
            if is_grant_witness(self.house, WISHES, (0,), other):
                self.assertEqual(other, frozen(other))
                self.assertEqual((other[0][0], other[1]), (1, (1, -1)))
        thing = conflict_witness(self.house, WISHES, (0, 1))
        self.assertIs(is_conflict_witness(self.house, WISHES, (0, 1), thing), True)
        for other in changed_places(thing):
            if is_conflict_witness(self.house, WISHES, (0, 1), other):
                self.assertEqual(other, frozen(other))
                index, grain, ((one, two), parts) = other
                self.assertNotIn("True", repr(other))
                tops = [top for top, _ in parts]
                self.assertEqual((index, (tops[0] * 6 + tops[1] + grain * one, tops[1] + tops[2] + grain * two)), (1, (1, 0)))

    def test_lists_bools_and_parts(self):
        vectors = ((1, 0), (1, -1))
        self.assertIs(is_grant_witness(self.house, WISHES, (0,), vectors), True)
        for thing in (list(vectors), ([1, 0], (1, -1)), ((1, 0), [1, -1]), ((True, 0), (1, -1)), ((1, False), (1, -1)),
                      vectors[:1], vectors + ((1, 0),), vectors[::-1], ((1, 0), (1, -1, 0)), ((1, 0), (1,)), ((1, 0), None)):
            self.assertIs(is_grant_witness(self.house, WISHES, (0,), thing), False, thing)
        form, parts = (0, 0), ((0, 1), (1, 1), (-1, 1))
        good = (1, 0, (form, parts))
        self.assertIs(is_conflict_witness(self.house, WISHES, (0, 1), good), True)
        for thing in (list(good), (1, 0, [form, parts]), (1, 0, ([0, 0], parts)), (1, 0, (form, list(parts))),
                      (1, 0, (form, ([0, 1], (1, 1), (-1, 1)))), (True, 0, good[2]), (1, False, good[2]), good[:2],
                      good + (0,), (0, 1, good[2]), (1, 0, (parts, form)), (1, 0, (form, parts[:2])),
                      (1, 0, (form, parts + ((0, 1),))), (1, 0, (form, parts[::-1])), (1, 0, (form, ((0, 2),) + parts[1:])),
                      (2, 0, good[2]), (-1, 0, good[2]), (None, 0, good[2]), (1, None, good[2]), (1, 0, None)):
            self.assertIs(is_conflict_witness(self.house, WISHES, (0, 1), thing), False, thing)

    def test_any_object(self):
        for thing in ODD_THINGS:
            for chosen in ((), (0,), (0, 1), (2,)):
                self.assertIs(is_grant_witness(self.house, WISHES, chosen, thing), False)
                self.assertIs(is_conflict_witness(self.house, WISHES, chosen, thing), False)
            self.assertIs(is_conflict_witness(self.house, WISHES, (0, 1), (thing, thing, thing)), False)
            self.assertIs(is_conflict_witness(self.house, WISHES, (0, 1), (1, 0, thing)), False)
            self.assertIs(is_grant_witness(self.house, WISHES, (0,), (thing, thing)), False)

    def test_in_order(self):
        # The observations stand in the order of the set, behind those of the reservations.
        house = example()
        house.reserve("ann", (2, 2))
        wishes = (("ann", (0, 1)), ("ann", (1, 1)))
        self.assertEqual(conflicts(house, wishes), [(0,)])
        witness = ((0, 0), ((1, 2), (-1, 1)))
        self.assertIs(is_conflict_witness(house, wishes, (0,), (1, 0, witness)), True)
        witness = ((0, 0), ((0, 1), (-1, 1), (1, 1)))
        self.assertIs(is_conflict_witness(house, wishes, (0, 1), (1, 0, witness)), True)
        self.assertIs(is_conflict_witness(house, wishes, (0, 1), (1, 0, (witness[0], ((0, 1), (1, 1), (-1, 1))))), False)

    def test_keywords_and_arguments_stay(self):
        wishes, chosen = listed(WISHES), [0]
        before = copy.deepcopy((wishes, chosen))
        house = self.house
        self.assertIs(is_grantable(chosen=chosen, wishes=wishes, house=house), True)
        self.assertEqual(maximal_sets(wishes=wishes, house=house), [(0,), (1,)])
        self.assertEqual(conflicts(wishes=wishes, house=house), [(2,), (0, 1)])
        self.assertEqual(best_set(values=[0, 1, 0], wishes=wishes, house=house), (1,))
        vectors = grant_witness(chosen=chosen, wishes=wishes, house=house)
        self.assertEqual(grant_witness(house, wishes, chosen), vectors)
        self.assertIs(is_grant_witness(thing=vectors, chosen=chosen, wishes=wishes, house=house), True)
        thing = conflict_witness(chosen=[0, 1], wishes=wishes, house=house)
        self.assertEqual(conflict_witness(house, wishes, [0, 1]), thing)
        self.assertIs(is_conflict_witness(thing=thing, chosen=[0, 1], wishes=wishes, house=house), True)
        self.assertEqual((wishes, chosen), before)


class GrantedTest(WishesTest):
    def test_what_is_grantable_is_answered_exactly_in_any_order(self):
        house = example()
        house.add_secret("d", "select sum(x - y) from t", 6)
        wishes = (("ann", (1, 1)), ("ann", (0, 1)), ("ann", (3, -3)), ("ann", (0, 2)), ("ann", (6, 0)))
        texts = ("x + y", "y", "3 * x - 3 * y", "2 * y", "6 * x")
        for chosen in searched(house, wishes):
            self.assertIs(is_grantable(house, wishes, chosen), True)
            for order in (chosen, chosen[::-1]):
                twin = house.copy()
                for index in order:
                    self.assertEqual(twin.ask("ann", f"select sum({texts[index]}) from t")[0][1], 0)


if __name__ == "__main__":
    unittest.main()
