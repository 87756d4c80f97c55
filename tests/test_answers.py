"""What a house answers, and what it tells about its answers."""

import random
import unittest
from fractions import Fraction

import model
from hushgrain.compiler import compiled, evaluated
from hushgrain.errors import (
    BadModulus, Exposed, HushError, NotSingle, QueryError, QuerySyntax, TooMany, UnknownReader,
)
from hushgrain.guards import keep_witness
from hushgrain.house import House
from hushgrain.knowledge import Knowledge
from hushgrain.parser import parse, written
from hushgrain.witnesses import is_known_witness, is_world_witness, known_witness, world_witness
from houses import play, played, random_values, sample, script, state
from support import divides, frozen, random_vector, value

ONE = "select sum(pay) from staff where id = 1"
TWO = "select sum(pay) from staff where id = 2"
ALL = "select sum(pay) from staff"
ZERO = "select count from staff"


class AnswersTest(unittest.TestCase):
    def fails(self, house, error, fields, call, *arguments):
        """The call raises this error and changes nothing."""
        before = state(house)
        with self.assertRaises(HushError) as caught:
            call(*arguments)
        self.assertIs(caught.exception.__class__, error, caught.exception)
        self.assertEqual(repr(vars(caught.exception)), repr(fields))
        self.assertEqual(state(house), before)


class AskTest(AnswersTest):
    def test_example(self):
        house = sample(1)
        self.assertEqual(house.ask("ann", ALL), [((), 0, 240)])
        self.assertEqual(house.ask("ann", TWO), [((), 1, None)])
        house = sample(10)
        self.assertEqual(house.ask("ann", ALL), [((), 0, 240)])
        self.assertEqual(house.ask("ann", TWO), [((), 10, 0)])

    def test_without_secrets_and_readers_who_are_cleared(self):
        house = sample(1, readers=("ann", "bob"))
        house.clear("one", "bob")
        self.assertEqual(house.ask("bob", ONE), [((), 0, 100)])
        self.assertEqual(house.ask("ann", ONE), [((), 1, None)])
        house.drop_secret("one")
        self.assertEqual(house.ask("ann", "select sum(pay), count from staff by dept"), [
            (("ops",), 0, 100), (("ops",), 0, 1), (("sales",), 0, 140), (("sales",), 0, 1),
        ])

    def test_values(self):
        for margin, modulus in ((1, 1), (2, 2), (7, 7), (16, 16), (11, 1), (22, 2), (5040, 5040), (1000000, 80)):
            house = sample(margin)
            residue = 100 % modulus if modulus > 1 else None
            self.assertEqual(house.ask("ann", ONE), [((), modulus, residue)])
        house = sample(7)
        # The constant is a part of the value, also of the residue.
        text = "select sum(pay + 5), sum(-pay), sum(3 * pay - 1000), sum(7 * pay) from staff where id = 1"
        wanted = [((), 7, 0), ((), 7, 5), ((), 21, 14), ((), 0, 700)]
        house.shift("staff", 1, "pay", 1)
        house.shift("staff", 1, "pay", -1)
        answers = house.ask("ann", text)
        self.assertEqual(answers[:2], wanted[:2])
        for (_, modulus, answer), whole in zip(answers, (105, -100, -700, 700)):
            self.assertEqual(answer, whole % modulus if modulus > 1 else whole)

    def test_offsets_are_open(self):
        house = sample(7)
        house.shift("staff", 1, "pay", 3)
        self.assertEqual(house.ask("ann", ONE), [((), 7, 103 % 7)])
        house.shift("staff", 1, "pay", -10 ** 29)
        self.assertEqual(house.ask("ann", ONE), [((), 7, (103 - 10 ** 29) % 7)])
        self.assertEqual(house.history(), [("ann", (1, 0), 7)] * 2)
        house.clear("one", "ann")
        self.assertEqual(house.ask("ann", ONE), [((), 0, 103 - 10 ** 29)])

    def test_negative_values(self):
        house = House(modulus=12)
        house.add_table("t", (), ("x",))
        house.add_row("t", (), (-7,))
        house.add_reader("ann")
        house.add_secret("s", "select sum(x) from t", 4)
        self.assertEqual(house.ask("ann", "select sum(x), sum(-x), sum(x - 1) from t"), [((), 4, 1), ((), 4, 3), ((), 4, 0)])
        house.drop_secret("s")
        self.assertEqual(house.ask("ann", "select sum(x) from t"), [((), 0, -7)])

    def test_zero_forms(self):
        house = sample(1)
        self.assertEqual(house.ask("ann", ZERO), [((), 0, 2)])
        self.assertEqual(house.ask("ann", "select sum(3), sum(pay - pay), sum(pay) from staff where id = 9"), [
            ((), 0, 0), ((), 0, 0), ((), 0, 0),
        ])
        self.assertEqual(house.history(), [("ann", (0, 0), 0)] * 4)
        house = House()
        house.add_table("t", (), ("x",))
        house.add_reader("ann")
        self.assertEqual(house.ask("ann", "select sum(x), count from t"), [((), 0, 0), ((), 0, 0)])
        self.assertEqual(house.history(), [("ann", (0,), 0)] * 2)

    def test_every_row_counts_for_the_rows_behind_it(self):
        house = sample(1)
        self.assertEqual(house.ask("ann", "select sum(pay) from staff by id"), [((1,), 1, None), ((2,), 0, 140)])
        self.assertEqual(house.ask("ann", ALL), [((), 1, None)])
        house = sample(1)
        self.assertEqual(house.ask("ann", "select sum(1 * pay), sum(pay) from staff by dept")[2:], [
            (("sales",), 0, 140), (("sales",), 0, 140),
        ])
        house = sample(6)
        text = "select sum(a.pay + b.pay), sum(b.pay) from staff as a, staff as b where a.id = 1 and b.id = 2"
        self.assertEqual(house.ask("ann", text), [((), 0, 240), ((), 6, 2)])
        house = sample(6)
        text = "select sum(b.pay), sum(a.pay + b.pay) from staff as a, staff as b where a.id = 1 and b.id = 2"
        self.assertEqual(house.ask("ann", text), [((), 0, 140), ((), 6, 0)])

    def test_other_readers_and_groups(self):
        house = sample(10, readers=("ann", "bob", "cy"))
        house.add_group(("ann", "bob"))
        self.assertEqual(house.ask("ann", ALL), [((), 0, 240)])
        self.assertEqual(house.ask("cy", TWO), [((), 0, 140)])
        self.assertEqual(house.ask("bob", TWO), [((), 10, 0)])

    def test_errors_in_order(self):
        for name in ("ask", "would"):
            house = sample(1)
            call = getattr(house, name)
            self.fails(house, UnknownReader, {"name": "zed"}, call, "zed", "nothing")
            self.fails(house, UnknownReader, {"name": ""}, call, "", "nothing")
            self.fails(house, QuerySyntax, {"position": 0}, call, "ann", "nothing")
            self.fails(house, QuerySyntax, {"position": 12}, call, "ann", "select count")
            self.fails(house, QuerySyntax, {"position": 26}, call, "ann", "select count from nowhere !")
            self.fails(house, QueryError, {"reason": "table", "position": 0}, call, "ann", "select count from nowhere")
            self.fails(house, QueryError, {"reason": "weight", "position": -1}, call, "ann",
                       "select sum(100 * pay) from staff")

    def test_too_many_answers(self):
        house = sample(1)
        many = "select " + ", ".join(["count"] * 49) + " from staff"
        for _ in range(4):
            self.assertEqual(len(house.ask("ann", many)), 49)
        self.fails(house, TooMany, {"kind": "answer"}, house.ask, "ann", many)
        self.fails(house, TooMany, {"kind": "answer"}, house.would, "ann", many)
        self.fails(house, TooMany, {"kind": "answer"}, house.publish, many)
        self.assertEqual(house.publish(ZERO), [((), 2)])
        self.assertEqual(len(house.ask("ann", "select sum(pay), count from staff")), 2)
        self.assertEqual(house.would("ann", ZERO), [((), 0)])
        self.assertEqual(len(house.ask("ann", ZERO)), 1)
        self.assertEqual(len(house.history()), 200)
        for call, arguments in ((house.ask, ("ann", ALL)), (house.would, ("ann", ZERO)), (house.publish, (ONE,))):
            self.fails(house, TooMany, {"kind": "answer"}, call, *arguments)
        self.fails(house, UnknownReader, {"name": "zed"}, house.ask, "zed", ALL)
        self.fails(house, QueryError, {"reason": "table", "position": 0}, house.publish, "select count from t")
        # A request without rows still finds its place.
        empty = "select count from staff where id = 9 by id"
        self.assertEqual((house.ask("ann", empty), house.would("ann", empty), house.publish(empty)), ([], [], []))
        self.assertEqual(len(house.transcript(["ann"])), 9)

    def test_new_lists(self):
        house = sample(1)
        for call in (house.ask, house.would):
            shown = call("ann", ALL)
            kept = list(shown)
            shown.clear()
            self.assertEqual(call("ann", ALL), kept)
        shown = house.history()
        shown.clear()
        self.assertEqual(len(house.history()), 2)
        shown = house.transcript(["ann"])
        shown[0][3].clear()
        shown.pop()
        self.assertEqual(house.transcript(["ann"])[0][3], [((), 0, 240)])
        self.assertEqual(len(house.transcript(["ann"])), 2)


class FinestTest(AnswersTest):
    def test_against_a_search_with_knowledge_built_anew(self):
        chance = random.Random(11)
        seen = set()
        for bound, times in ((1, 4), (12, 24), (60, 24), (360, 12), (999999, 6), (1000000, 6), (5040, 10)):
            for _ in range(times):
                house = House(modulus=bound)
                values = random_values(chance)
                for method, arguments in script(chance, 25):
                    if method == "ask":
                        seen |= self.check_ask(house, bound, *arguments)
                    else:
                        play(house, (method, arguments), values)
                    self.check_guards(house)
        self.assertGreater(len(seen), 20, seen)

    def check_ask(self, house, bound, reader, text):
        """Ask, unless this raises an error; return the moduli."""
        try:
            foreseen = house.would(reader, text)
        except HushError as error:
            self.fails(house, error.__class__, vars(error), house.ask, reader, text)
            return set()
        before = state(house)
        self.assertEqual(house.would(reader, text), foreseen)
        self.assertEqual(state(house), before)
        rows = compiled(parse(text), house.tables())
        wanted = model.moduli(house, reader, rows, bound)
        values = [found for _, found in evaluated(parse(text), house.tables(), house.world())]
        history = house.history()
        answers = house.ask(reader, text)
        self.assertEqual([modulus for _, modulus, _ in answers], wanted)
        self.assertEqual([(labels, modulus) for labels, modulus, _ in answers], foreseen)
        for (labels, modulus, answer), (row_labels, _, _), whole in zip(answers, rows, values):
            self.assertEqual(labels, row_labels)
            self.assertEqual(answer, whole if modulus == 0 else None if modulus == 1 else whole % modulus)
        entries = [(reader, form, modulus) for (_, form, _), modulus in zip(rows, wanted)]
        self.assertEqual(house.history(), history + entries)
        self.assertEqual(house.transcript((reader,))[-1], (house.tables().day(), reader, written(parse(text)), answers))
        return set(wanted)

    def check_guards(self, house):
        """All guards hold, and they are what they are if all knowledge is built anew."""
        shown, wanted = house.guards(), model.guards_of(house)
        self.assertEqual([place[:3] for place in shown], [place[:3] for place in wanted])
        for (_, _, _, (known, form, margin)), (_, _, _, (anew, secret, allowed)) in zip(shown, wanted):
            self.assertEqual((known.observations(), form, margin), (anew.observations(), secret, allowed))
            self.assertTrue(known == anew)
            self.assertTrue(divides(anew.grain(form), margin))
        for readers in ((), *[(reader,) for reader in house.readers()], tuple(house.readers()[::-1])):
            entries = [(f, m) for reader, f, m in house.history() if reader == "" or reader in readers]
            self.assertEqual(house.knowledge(readers).observations(), tuple(entries))

    def test_the_same_request_again(self):
        chance = random.Random(12)
        for _ in range(40):
            values = random_values(chance)
            house, _ = played(script(chance, 12), values)
            for number, _, _ in house.reservations():
                house.release(number)
            calls = [call for call in script(chance, 60) if call[0] in ("ask", "publish")]
            asked = {}
            for method, arguments in calls:
                kind, result, *_ = play(house, (method, arguments), values)
                if method == "ask" and kind == "returns":
                    moduli = [modulus for _, modulus, _ in result]
                    self.assertEqual(asked.setdefault(arguments, moduli), moduli)

    def test_the_order_of_requests_matters_but_not_that_of_entries(self):
        one, other = sample(1), sample(1)
        one.ask("ann", ALL)
        one.ask("ann", TWO)
        other.ask("ann", TWO)
        other.ask("ann", ALL)
        self.assertEqual([modulus for _, _, modulus in one.history()], [0, 1])
        self.assertEqual([modulus for _, _, modulus in other.history()], [0, 1])
        self.assertFalse(one.knowledge(["ann"]) == other.knowledge(["ann"]))
        chance = random.Random(13)
        for _ in range(20):
            house, _ = played(script(chance, 40), random_values(chance))
            for reader in house.readers():
                observations = list(house.knowledge([reader]).observations())
                chance.shuffle(observations)
                size = max(1, len(house.world()))
                self.assertTrue(Knowledge(size, observations) == house.knowledge([reader]))


    def test_requests_in_another_order(self):
        chance = random.Random(14)
        texts = ("x + y", "x - y", "2 * y", "3 * x + y", "y", "6 * x", "5 - x")
        other_moduli = 0
        for _ in range(30):
            houses = []
            chosen = chance.sample(texts, 4)
            for order in (chosen, chosen[::-1], chance.sample(chosen, 4)):
                house = House(modulus=60)
                house.add_table("t", (), ("x", "y"))
                house.add_row("t", (), (chance.randint(-99, 99), chance.randint(-99, 99)))
                for reader in ("ann", "bob"):
                    house.add_reader(reader)
                house.add_secret("s", "select sum(x) from t", chance.choice((6, 6, 12)), ("bob",))
                for text in order:
                    house.ask("ann", f"select sum({text}) from t")
                    house.ask("bob", f"select sum({text}) from t")
                houses.append(house)
            # Where all answers are exact, the order makes no difference at all.
            self.assertTrue(houses[0].knowledge(["bob"]) == houses[1].knowledge(["bob"]) == houses[2].knowledge(["bob"]))
            moduli = [sorted((f, m) for reader, f, m in house.history() if reader == "ann") for house in houses]
            other_moduli += moduli[0] != moduli[1]
            for house in houses:
                entries = [(form, modulus) for reader, form, modulus in house.history() if reader == "ann"]
                for order in (entries[::-1], chance.sample(entries, len(entries))):
                    self.assertTrue(Knowledge(2, order) == house.knowledge(["ann"]))
        self.assertGreater(other_moduli, 5)


class PublishTest(AnswersTest):
    def test_publications(self):
        house = sample(10, readers=("ann", "bob"))
        text = "select  sum( pay ),count from staff where id=2 by dept"
        self.assertEqual(house.publish(text), [(("sales",), 140), (("sales",), 1)])
        self.assertEqual(house.history(), [("", (0, 1), 0), ("", (0, 0), 0)])
        house.add_reader("cy")
        shown = (0, "", "select sum(pay), count from staff where id = 2 by dept",
                 [(("sales",), 0, 140), (("sales",), 0, 1)])
        for readers in ((), ("ann",), ["cy", "bob"]):
            self.assertEqual(house.transcript(readers), [shown])
            self.assertEqual(house.knowledge(readers).observations(), (((0, 1), 0), ((0, 0), 0)))
        for reader in ("ann", "bob", "cy"):
            self.assertEqual(house.ask(reader, ALL), [((), 10, 0)])

    def test_errors_in_order(self):
        house = sample(10, readers=("ann", "bob"))
        self.fails(house, QuerySyntax, {"position": 0}, house.publish, "")
        self.fails(house, QueryError, {"reason": "column", "position": 11}, house.publish, "select sum(x) from staff")
        fields = {"name": "one", "instance": 0, "group": (), "known": 0}
        self.fails(house, Exposed, fields, house.publish, ONE)
        self.fails(house, Exposed, fields, house.publish, "select count, sum(pay) from staff by id")
        self.fails(house, Exposed, fields, house.publish, "select sum(3 * pay) from staff where id = 1")

    def test_exposed_for_the_state_behind_all_rows(self):
        house = sample(10, readers=("ann", "bob"))
        house.ask("bob", ALL)
        fields = {"name": "one", "instance": 0, "group": ("bob",), "known": 0}
        self.fails(house, Exposed, fields, house.publish, TWO)
        fields = {"name": "one", "instance": 0, "group": (), "known": 0}
        text = "select sum(b.pay), sum(a.pay + b.pay) from staff as a, staff as b where a.id = 1 and b.id = 2"
        self.fails(house, Exposed, fields, house.publish, text)
        house.add_secret("all", ALL, 4, ("bob",))
        fields = {"name": "all", "instance": 0, "group": (), "known": 0}
        self.fails(house, Exposed, fields, house.publish, ALL)
        house.ask("ann", "select sum(2 * pay) from staff where id = 2")
        fields = {"name": "one", "instance": 0, "group": ("bob",), "known": 0}
        self.fails(house, Exposed, fields, house.publish, TWO)

    def test_new_lists_and_values(self):
        house = sample(10)
        shown = house.publish(TWO)
        shown.clear()
        self.assertEqual(house.transcript(())[0][3], [((), 0, 140)])
        house.transcript(())[0][3].clear()
        self.assertEqual(house.transcript(())[0][3], [((), 0, 140)])


class TranscriptTest(AnswersTest):
    def test_order_days_and_texts(self):
        house = sample(1, readers=("ann", "bob", "cy"))
        house.ask("bob", "select sum( (pay) )  from staff")
        house.next_day()
        house.publish("select count from staff at day 0 where not(1=2)")
        house.ask("ann", "select sum(pay) from staff as s by s . id")
        house.ask("bob", "select count from staff where id = 9 by dept")
        bob = (0, "bob", "select sum(pay) from staff", [((), 0, 240)])
        everyone = (1, "", "select count from staff at day 0 where not 1 = 2", [((), 0, 2)])
        ann = (1, "ann", "select sum(pay) from staff as s by s.id", [((1,), 1, None), ((2,), 0, 140)])
        empty = (1, "bob", "select count from staff where id = 9 by dept", [])
        self.assertEqual(house.transcript(()), [everyone])
        self.assertEqual(house.transcript(["cy"]), [everyone])
        self.assertEqual(house.transcript(["ann"]), [everyone, ann])
        for readers in (("ann", "bob"), ["bob", "ann"], ["bob", "cy", "bob", "ann", "ann"]):
            self.assertEqual(house.transcript(readers), [bob, everyone, ann, empty])
        # What was answered stays as it was told.
        house.shift("staff", 2, "pay", 9)
        house.remove_row("staff", 1)
        house.drop_secret("one")
        self.assertEqual(house.transcript(["ann", "bob"]), [bob, everyone, ann, empty])

    def test_unknown_readers(self):
        house = sample(1)
        self.fails(house, UnknownReader, {"name": "zed"}, house.transcript, ["ann", "zed", "abe"])
        self.fails(house, UnknownReader, {"name": ""}, house.transcript, ("",))


class WhyTest(AnswersTest):
    def test_example(self):
        house = sample(1)
        house.ask("ann", ALL)
        name, instance, group, grain, witness = house.why("ann", TWO, 2)
        self.assertEqual((name, instance, group, grain), ("one", 0, ("ann",), 2))
        known = Knowledge(2, [((1, 1), 0), ((0, 1), 2)])
        self.assertTrue(is_known_witness(known, (1, 0), 2, witness))
        self.assertIsNone(house.why("ann", TWO, 1))
        self.assertIsNone(house.why("ann", ALL, 0))

    def test_none_just_where_the_modulus_is_safe(self):
        chance = random.Random(21)
        told = 0
        for _ in range(60):
            house, _ = played(script(chance, 30), random_values(chance))
            for reader in house.readers():
                guards = [place for place in model.guards_of(house) if reader in place[2]]
                for text in (ONE.replace("pay", "2 * pay + debt"), TWO, "select sum(6 * pay - 4 * debt) from staff"):
                    form = compiled(parse(text), house.tables())[0][1]
                    for modulus in (0, 1, 2, 3, 7, 12, 5040, 999983, 1000000):
                        told += self.check_why(house, guards, reader, text, form, modulus)
        self.assertGreater(told, 100)

    def check_why(self, house, guards, reader, text, form, modulus):
        found = house.why(reader, text, modulus)
        wanted = None
        for name, instance, group, (known, secret, margin) in guards:
            after = Knowledge(known.size(), known.observations() + ((form, modulus),))
            if not divides(after.grain(secret), margin):
                wanted = name, instance, group, after.grain(secret)
                break
        if wanted is None:
            self.assertIsNone(found)
            return 0
        self.assertIsInstance(found, tuple)
        self.assertEqual(found[:4], wanted)
        self.assertTrue(is_known_witness(after, secret, found[3], found[4]))
        return 1

    def test_other_bounds_do_not_matter(self):
        house = sample(10, modulus=1)
        self.assertIsNone(house.why("ann", ONE, 10))
        self.assertIsNone(house.why("ann", ONE, 5))
        self.assertEqual(house.why("ann", ONE, 3)[:4], ("one", 0, ("ann",), 3))
        self.assertEqual(house.why("ann", ONE, 1000000)[:4], ("one", 0, ("ann",), 1000000))

    def test_errors_in_order(self):
        house = sample(1)
        why = house.why
        self.fails(house, UnknownReader, {"name": "zed"}, why, "zed", "nothing", None)
        self.fails(house, QuerySyntax, {"position": 0}, why, "ann", "nothing", None)
        self.fails(house, QueryError, {"reason": "table", "position": 0}, why, "ann", "select count from t by id", None)
        self.fails(house, NotSingle, {}, why, "ann", "select count, count from staff", None)
        self.fails(house, NotSingle, {}, why, "ann", "select sum(pay) from staff by id", -1)
        self.fails(house, NotSingle, {}, why, "ann", "select sum(pay) from staff where id = 9 by id", -1)
        for modulus in (-1, 1000001, True, False, None, "1", (), [1], (2,), 10 ** 299):
            self.fails(house, BadModulus, {"modulus": frozen(modulus)}, why, "ann", ONE, modulus)

    def test_changes_nothing(self):
        house = sample(1)
        before = state(house)
        for modulus in (0, 1, 2, 1000000):
            self.assertEqual(house.why("ann", ONE, modulus), house.why("ann", ONE, modulus))
        self.assertEqual(state(house), before)


class ExactKnowledgeTest(AnswersTest):
    def test_grains_of_all_groups(self):
        chance = random.Random(41)
        grains = set()
        for _ in range(30):
            house, _ = played(script(chance, 30), random_values(chance))
            size = len(house.world())
            for group in house.groups():
                known = house.knowledge(group)
                entries = [(form, modulus) for reader, form, modulus in house.history() if reader in ("",) + group]
                for form in [random_vector(chance, size, 2) for _ in range(3)] + [form for form, _ in entries[:2]]:
                    grain = known.grain(form)
                    grains.add(grain)
                    # The value is known up to multiples of the grain ..
                    combined, parts = known_witness(known, form)
                    self.assertEqual(len(parts), len(entries))
                    total = [Fraction(grain * weight) for weight in combined]
                    for (top, bottom), (asked, modulus) in zip(parts, entries):
                        total = [have + Fraction(top, bottom) * weight for have, weight in zip(total, asked)]
                        self.assertTrue(divides(grain * bottom, top * modulus))
                    self.assertEqual(tuple(total), form)
                    # .. and nothing more: in another world it differs by just the grain.
                    vector = world_witness(known, form, grain)
                    self.assertEqual(value(form, vector), grain)
                    self.assertTrue(all(divides(modulus, value(asked, vector)) for asked, modulus in entries))
        self.assertGreater(len(grains), 5)


class WorldsTest(AnswersTest):
    def test_moduli_and_errors_do_not_depend_on_the_cells(self):
        chance = random.Random(31)
        for _ in range(60):
            calls = script(chance, 40)
            one, first = played(calls, random_values(chance))
            other, second = played(calls, random_values(chance))
            self.assertEqual([self.open_part(*pair) for pair in zip(calls, first)],
                             [self.open_part(*pair) for pair in zip(calls, second)])
            self.assertEqual(one.history(), other.history())
            self.assertEqual(one.policy(), other.policy())
            self.assertEqual(one.reservations(), other.reservations())
            for reader in one.readers():
                text = "select sum(3 * pay - debt) from staff"
                self.assertEqual(one.why(reader, text, 7), other.why(reader, text, 7))
                self.assertEqual(one.would(reader, text), other.would(reader, text))

    def open_part(self, call, outcome):
        """What of an outcome may not depend on the cells."""
        if outcome[0] == "raises" or call[0] not in ("ask", "publish"):
            return outcome
        return [answer[:-1] for answer in outcome[1]]

    def test_two_worlds(self):
        chance = random.Random(32)
        guards = 0
        for _ in range(40):
            calls, values = script(chance, chance.choice((5, 20, 40))), random_values(chance)
            house, outcomes = played(calls, values)
            for name, instance, group, guard in house.guards():
                guards += 1
                self.check_worlds(calls, values, house, outcomes, group, guard)
        self.assertGreater(guards, 150)

    def check_worlds(self, calls, values, house, outcomes, group, guard):
        """Nobody in the group sees the difference between two worlds."""
        known, form, margin = guard
        vector = keep_witness(guard)
        self.assertTrue(is_world_witness(known, form, margin, vector))
        moved = tuple(entry + added for entry, added in zip(values, vector + (0,) * 12))
        other, others = played(calls, moved)
        self.assertEqual(value(form, other.world()), value(form, house.world()) + margin)
        self.assertEqual(other.transcript(group), house.transcript(group))
        for (method, arguments), one, two in zip(calls, outcomes, others):
            if one[0] == "raises" or method == "publish" or (method == "ask" and arguments[0] in group):
                self.assertEqual(one, two)


if __name__ == "__main__":
    unittest.main()
