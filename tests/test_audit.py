import copy
import random
import unittest

import model
from hushgrain.audit import audit, audit_paper, paper_holds
from hushgrain.errors import BadEntry, HushError, NotClean, NotKept
from hushgrain.knowledge import Knowledge
from hushgrain.witnesses import is_known_witness
from houses import played, random_values, sample, script
from support import ODD_THINGS, changed_places, divides, frozen, listed, random_vector, value

SIMPLE = (2, 5040, ("ann", "bob"), (), (("one", (1, 0), 10, ()),))
STEPS = (("ann", (1, 1), 0), ("ann", (0, 1), 10), ("bob", (0, 1), 0), ("bob", (1, 0), 10))


def guards_of(policy, entries):
    """(name, group, guard) for every guard behind these entries."""
    size, _, readers, declared, secrets = policy
    found = []
    for name, form, margin, cleared in secrets:
        effective = {tuple(r for r in group if r not in cleared) for group in model.groups_of(readers, declared)}
        for group in sorted(effective, key=lambda group: (len(group), group)):
            seen = [(f, m) for reader, f, m in entries if reader == "" or reader in group]
            found.append((name, group, (Knowledge(size, seen), form, margin)))
    return found


def broken(policy, entries):
    """The number of the first guard that does not hold, or None."""
    for number, (_, _, (known, form, margin)) in enumerate(guards_of(policy, entries)):
        if not divides(known.grain(form), margin):
            return number
    return None


def audited(policy, history):
    """The verdict by definition, with all knowledge built anew at each entry."""
    bound = policy[1]
    for index, (reader, form, modulus) in enumerate(history):
        number = broken(policy, history[:index + 1])
        if number is not None:
            name, group, (known, secret, _) = guards_of(policy, history[:index + 1])[number]
            return "harmful", index, name, group, known.grain(secret)
        concerned = [guard for _, group, guard in guards_of(policy, history[:index]) if reader in group]
        moduli = [0] + model.all_divisors(bound)[::-1]
        finest = [m for m in moduli if model.safe(concerned, form, m)][0]
        if reader and finest != modulus:
            return "coarse", index, finest
    return ("clean",)


def next_finer(modulus, bound):
    if modulus == 0:
        return []
    if modulus == bound:
        return [0]
    primes = [p for p in range(2, bound + 1) if all(p % q for q in range(2, p))]
    return [p * modulus for p in primes if bound % (p * modulus) == 0]


def random_policy(chance, size, bound):
    readers = tuple(sorted(chance.sample(("ann", "bob", "cy", "dee"), chance.randint(1, 3))))
    declared = []
    for _ in range(chance.randint(0, 2) if len(readers) > 1 else 0):
        group = tuple(sorted(chance.sample(readers, chance.randint(2, len(readers)))))
        if group not in declared:
            declared.append(group)
    secrets = []
    for number in range(chance.randint(0, 3)):
        cleared = tuple(sorted(chance.sample(readers, chance.choice((0, 0, 1)))))
        form = random_vector(chance, size, 3)
        margin = chance.choice((1, 2, 6, 12, 60, 1000000))
        secrets.append((f"secret {number}", form, margin, cleared))
    return size, bound, readers, tuple(declared), tuple(secrets)


def random_history(chance, policy, length):
    """Entries, most of them with the finest safe modulus at their place."""
    size, bound, readers, _, _ = policy
    history = ()
    for _ in range(length):
        reader, form = chance.choice(readers), random_vector(chance, size, 2)
        if chance.randrange(12) == 0:
            history += (("", form, 0),)
            continue
        concerned = [guard for _, group, guard in guards_of(policy, history) if reader in group]
        moduli = [0] + model.all_divisors(bound)[::-1]
        safe = [m for m in moduli if model.safe(concerned, form, m)] or moduli
        history += ((reader, form, chance.choice(moduli) if chance.randrange(20) == 0 else safe[0]),)
    return history


class AuditTest(unittest.TestCase):
    def fails(self, error, fields, call, *arguments):
        given = repr(arguments)
        with self.assertRaises(HushError) as caught:
            call(*arguments)
        self.assertIs(caught.exception.__class__, error, arguments)
        self.assertEqual(vars(caught.exception), fields)
        self.assertEqual(repr(arguments), given)

    def samples(self, seed, times):
        chance = random.Random(seed)
        while times:
            bound = chance.choice((1, 2, 12, 60, 360))
            policy = random_policy(chance, chance.randint(1, 4), bound)
            if broken(policy, ()) is None:
                times -= 1
                yield policy, random_history(chance, policy, chance.randint(0, 8))


class VerdictTest(AuditTest):
    def test_clean_harmful_coarse(self):
        self.assertEqual(audit(SIMPLE, STEPS), ("clean",))
        self.assertEqual(audit(SIMPLE, ()), ("clean",))
        for index in range(4):
            reader, form, modulus = STEPS[index]
            for other in (0, 1, 2, 5, 10, 20, 5040):
                history = STEPS[:index] + ((reader, form, other),) + STEPS[index + 1:]
                if other == modulus:
                    self.assertEqual(audit(SIMPLE, history), ("clean",))
                elif modulus == 0 or divides(other, 10):
                    self.assertEqual(audit(SIMPLE, history), ("coarse", index, modulus))
                else:
                    wanted = ("harmful", index, "one", (reader,), other)
                    self.assertEqual(audit(SIMPLE, history), wanted)

    def test_publications(self):
        self.assertEqual(audit(SIMPLE, (("", (0, 1), 0), ("ann", (1, 1), 10))), ("clean",))
        self.assertEqual(audit(SIMPLE, (("", (1, 0), 0),)), ("harmful", 0, "one", (), 0))
        self.assertEqual(audit(SIMPLE, (("", (0, 0), 0), ("", (3, 0), 0))), ("harmful", 1, "one", (), 0))
        wanted = ("harmful", 2, "one", ("bob",), 0)
        self.assertEqual(audit(SIMPLE, (("ann", (0, 0), 0), ("bob", (1, 1), 0), ("", (0, 1), 0))), wanted)
        # A publication is never coarse.
        self.assertEqual(audit((1, 6, (), (), ()), [("", (1,), 0)] * 200), ("clean",))

    def test_several_faults(self):
        faulty = (("ann", (1, 1), 5040), ("ann", (0, 1), 0), ("bob", (1, 0), 0))
        self.assertEqual(audit(SIMPLE, faulty), ("coarse", 0, 0))
        self.assertEqual(audit(SIMPLE, faulty[1:]), ("harmful", 1, "one", ("bob",), 0))
        self.assertEqual(audit(SIMPLE, faulty[2:] + faulty), ("harmful", 0, "one", ("bob",), 0))
        # What is harmful is not called coarse, even if a finer modulus broke nothing more.
        policy = (1, 12, ("ann",), (), (("s", (1,), 2, ()),))
        self.assertEqual(audit(policy, (("ann", (1,), 4),)), ("harmful", 0, "s", ("ann",), 4))
        self.assertEqual(audit(policy, (("ann", (1,), 1),)), ("coarse", 0, 2))

    def test_readers_whom_no_guard_concerns(self):
        policy = (2, 12, ("ann", "bob"), (), (("one", (1, 0), 1, ("bob",)),))
        self.assertEqual(audit(policy, (("bob", (1, 0), 0), ("bob", (0, 1), 0))), ("clean",))
        self.assertEqual(audit(policy, (("bob", (1, 0), 12),)), ("coarse", 0, 0))
        self.assertEqual(audit(policy, (("ann", (1, 0), 1),)), ("clean",))
        self.assertEqual(audit((2, 12, ("ann",), (), ()), (("ann", (5, 7), 0),)), ("clean",))
        self.assertEqual(audit((2, 12, ("ann",), (), ()), (("ann", (0, 0), 12),)), ("coarse", 0, 0))

    def test_groups_and_order_of_guards(self):
        readers = ("ann", "bob", "cy")
        history = (("ann", (1, 1), 0), ("bob", (0, 1), 0))
        for groups, wanted in (
            ((), ("clean",)), ((("ann", "cy"),), ("clean",)),
            ((("ann", "bob"),), ("harmful", 1, "a", ("ann", "bob"), 0)),
            ((("ann", "bob", "cy"), ("ann", "bob")), ("harmful", 1, "a", ("ann", "bob"), 0)),
            ((("ann", "bob", "cy"), ("bob", "cy")), ("harmful", 1, "a", ("ann", "bob", "cy"), 0)),
        ):
            secrets = (("b", (0, 0), 1, ()), ("a", (1, 0), 7, ()), ("b", (1, 0), 1, ()))
            self.assertEqual(audit((2, 12, readers, groups, secrets[1:]), history), wanted, groups)
        # The order of the secrets in the tuple counts, not that of their names.
        secrets = (("z", (1, 0), 3, ()), ("a", (1, 0), 1, ()))
        self.assertEqual(audit((2, 12, readers, (), secrets), (("", (1, 0), 0),)), ("harmful", 0, "z", (), 0))
        cleared = (("z", (1, 0), 3, ("ann",)), ("a", (1, 0), 1, ()))
        self.assertEqual(audit((2, 12, readers, (), cleared), (("ann", (1, 0), 0),)), ("harmful", 0, "a", ("ann",), 0))
        self.assertEqual(audit((2, 12, readers, (("ann", "bob"),), cleared[:1]), (("ann", (1, 0), 0), ("bob", (1, 0), 6))),
                         ("harmful", 1, "z", ("bob",), 6))

    def test_against_the_definition(self):
        seen = {}
        for policy, history in self.samples(1, 300):
            wanted = audited(policy, history)
            seen[wanted[0]] = seen.get(wanted[0], 0) + 1
            self.assertEqual(audit(policy, history), wanted)
            self.assertEqual(audit(listed(policy), listed(history)), wanted)
            if wanted == ("clean",):
                self.check_paper(policy, history)
            else:
                self.fails(NotClean, {"index": wanted[1]}, audit_paper, policy, history)
        self.assertGreater(min(seen.values()), 10, seen)

    def check_paper(self, policy, history):
        """Check a paper by products alone."""
        paper = audit_paper(policy, history)
        self.assertEqual(audit_paper(listed(policy), listed(history)), paper)
        keeps, breaks = paper
        guards = guards_of(policy, history)
        self.assertEqual(len(keeps), len(guards))
        for vector, (_, _, (known, form, margin)) in zip(keeps, guards):
            self.assertEqual(value(form, vector), margin)
            for asked, modulus in known.observations():
                self.assertTrue(divides(modulus, value(asked, vector)))
        asked = [index for index, entry in enumerate(history) if entry[0]]
        self.assertEqual(len(breaks), len(asked))
        for index, parts in zip(asked, breaks):
            reader, form, modulus = history[index]
            finer = next_finer(modulus, policy[1])
            self.assertEqual(len(parts), len(finer))
            for other, (number, grain, witness) in zip(finer, parts):
                _, group, (known, secret, margin) = guards_of(policy, history[:index])[number]
                self.assertIn(reader, group)
                self.assertFalse(divides(grain, margin))
                after = Knowledge(policy[0], known.observations() + ((form, other),))
                self.assertTrue(is_known_witness(after, secret, grain, witness))
        self.assertIs(paper_holds(policy, history, paper), True)
        self.assertIs(paper_holds(listed(policy), listed(history), paper), True)

    def test_houses(self):
        chance = random.Random(2)
        steady = ("ask", "publish", "add_row", "shift", "set_tag", "remove_row", "next_day", "would")
        for _ in range(40):
            calls = script(chance, 0) + [call for call in script(chance, 60)[14:] if call[0] in steady]
            house, _ = played(calls, random_values(chance), chance.choice((12, 5040)))
            policy, history = house.policy(), house.history()
            self.assertIsInstance(policy, tuple)
            self.assertEqual(policy, frozen(policy))
            self.assertEqual(audit(policy, history), ("clean",))
            self.assertIs(paper_holds(policy, history, audit_paper(policy, history)), True)

    def test_policy_of_a_house(self):
        house = sample(10, readers=("dee", "ann", "cy"))
        house.add_group(("dee", "ann", "cy"))
        house.add_group(("dee", "ann"))
        house.add_secret("b", "select sum(2 * pay) from staff", 12, ("dee", "cy"))
        house.change("staff", 1, "pay", 5)
        wanted = (3, 5040, ("ann", "cy", "dee"), (("ann", "dee"), ("ann", "cy", "dee")), (
            ("b#00", (2, 2, 0), 12, ("cy", "dee")), ("b#01", (0, 2, 2), 12, ("cy", "dee")),
            ("one#00", (1, 0, 0), 10, ()), ("one#01", (0, 0, 1), 10, ()),
        ))
        self.assertEqual(house.policy(), wanted)
        names = [(f"{name}#{instance:02d}", group) for name, instance, group, _ in house.guards()]
        self.assertEqual(names, [(name, group) for name, group, _ in guards_of(wanted, ())])

    def test_two_hundred_entries(self):
        history = [("ann", (1, 1), 0)] + [("ann", (0, 1), 10), ("bob", (1, 0), 10), ("", (0, 0), 0)] * 66 + [STEPS[3]]
        self.assertEqual(len(history), 200)
        self.assertEqual(audit(SIMPLE, history), ("clean",))
        paper = audit_paper(SIMPLE, history)
        self.assertIs(paper_holds(SIMPLE, history, paper), True)
        self.assertEqual(audit(SIMPLE, history[:199] + [("bob", (1, 0), 5)]), ("coarse", 199, 10))


class ErrorTest(AuditTest):
    def test_bad_entries(self):
        policy = (2, 12, ("ann",), (), (("one", (1, 0), 1, ()),))
        good = ("ann", (0, 1), 0)
        bad = [("bob", (0, 1), 0), (None, (0, 1), 0), (7, (0, 1), 0), (True, (0, 1), 0), (("ann",), (0, 1), 0),
               (["ann"], (0, 1), 0), ("Ann", (0, 1), 0)]
        bad += [("ann", form, 0) for form in ((0,), (0, 1, 2), (), None, "ab", (0, True), (0, None), 7, ((0,), 1), [[0, 1]])]
        bad += [("ann", (0, 1), modulus) for modulus in (5, 24, -1, -12, True, None, "0", (), [0], 10 ** 299)]
        bad += [("", (0, 1), modulus) for modulus in (1, 12, 2, 5, False, None, "", ())]
        for entry in bad:
            for index in range(3):
                history = [good] * index + [entry, ("zed", None, None)]
                for thing in (history, tuple(history), [list(part) for part in history]):
                    self.fails(BadEntry, {"index": index}, audit, policy, thing)
                    self.fails(BadEntry, {"index": index}, audit_paper, policy, thing)
                    self.fails(BadEntry, {"index": index}, paper_holds, policy, thing, None)
        for modulus in (0, 1, 2, 3, 4, 6, 12):
            self.assertIn(audit(policy, (("ann", (0, 1), modulus),))[0], ("clean", "coarse"))

    def test_not_kept(self):
        policy = (2, 12, ("ann",), (), (("a", (1, 0), 1, ()), ("b", (2, 4), 3, ()), ("c", (0, 0), 1, ())))
        self.fails(NotKept, {"index": 2}, audit, policy, ())
        self.fails(NotKept, {"index": 2}, audit_paper, policy, [("ann", (1, 0), 0)])
        self.fails(NotKept, {"index": 0}, audit, policy[:4] + (policy[4][2:],), ())
        self.fails(BadEntry, {"index": 1}, audit, policy, [("ann", (1, 0), 0), ("ann", (1, 0), 5)])
        self.assertEqual(audit(policy[:4] + ((("b", (2, 4), 2, ()),),), ()), ("clean",))
        # A paper needs a vector for every guard, so there is none.
        self.assertIs(paper_holds(policy, (), (((1, 0), (1, 0), (0, 0)), ())), False)

    def test_keywords_and_arguments_stay(self):
        policy, history = listed(SIMPLE), listed(STEPS)
        before = copy.deepcopy((policy, history))
        self.assertEqual(audit(history=history, policy=policy), ("clean",))
        paper = audit_paper(history=history, policy=policy)
        self.assertEqual(audit_paper(policy, history), paper)
        self.assertIs(paper_holds(thing=paper, history=history, policy=policy), True)
        self.assertEqual((policy, history), before)


class PaperTest(AuditTest):
    def test_other_papers_that_hold(self):
        policy = (2, 6, ("ann", "bob"), (("ann", "bob"),), (("one", (1, 0), 1, ()),))
        history = (("ann", (1, 0), 1), ("", (0, 1), 0))
        # Guards: (), ann, bob, both. 2 and 3 are the next finer moduli of the first entry.
        two, three = ((0, 0), ((1, 1),)), ((0, 0), ((1, 1),))
        keeps = ((1, 0),) * 4
        for first in (1, 3):
            for second in range(-1, 5):
                paper = (keeps, (((first, 2, two), (second, 3, three)),))
                self.assertIs(paper_holds(policy, history, paper), second in (1, 3))
                paper = (keeps, (((second, 2, two), (first, 3, three)),))
                self.assertIs(paper_holds(policy, history, paper), second in (1, 3))
        part = (((1, 2, two), (1, 3, three)),)
        self.assertIs(paper_holds(policy, history, (((1, 0), (1, 0), (1, 0), (1, 0)), part)), True)
        for vector in ((1, 1), (0, 0), (2, 0), (-1, 0), (1,), (1, 0, 0)):
            self.assertIs(paper_holds(policy, history, (((1, 0), (1, 0), vector, (1, 0)), part)), False)
        # The order of the next finer moduli counts.
        self.assertIs(paper_holds(policy, history, (keeps, (((1, 3, three), (1, 2, two)),))), False)
        # Another grain that does not divide the margin either, with its own witness.
        self.assertIs(paper_holds(policy, history, (keeps, (((1, 2, ((5, 0), ((-9, 1),))), (1, 3, three)),))), True)
        policy = policy[:4] + ((("one", (1, 0), 1, ("bob",)),),)
        self.assertIs(paper_holds(policy, history, (keeps[:2], part)), True)
        self.assertIs(paper_holds(policy, history, (keeps, part)), False)

    def test_next_finer_moduli(self):
        for margin, count in ((1, 2), (2, 2), (3, 1), (4, 1), (6, 1), (12, 1), (24, 1)):
            policy = (1, 12, ("ann",), (), (("s", (1,), margin, ()),))
            modulus = [m for m in (12, 6, 4, 3, 2, 1) if margin % m == 0][0]
            paper = audit_paper(policy, (("ann", (1,), modulus),))
            self.assertEqual(len(paper[1][0]), count, margin)
            self.assertIs(paper_holds(policy, (("ann", (1,), modulus),), paper), True)
        self.assertEqual(audit_paper((1, 12, ("ann",), (), ()), (("ann", (1,), 0),)), ((), ((),)))
        self.assertEqual(len(audit_paper((1, 1, ("ann",), (), (("s", (1,), 7, ()),)), (("ann", (1,), 1),))[1][0]), 1)

    def test_papers_of_histories_that_are_not_clean(self):
        policy = (1, 12, ("ann",), (), (("s", (1,), 4, ()),))
        paper = audit_paper(policy, (("ann", (1,), 4),))
        for modulus in (0, 1, 2, 3, 6, 12):
            self.assertIs(paper_holds(policy, (("ann", (1,), modulus),), paper), False)

    def test_every_change_of_one_thing(self):
        policy = (2, 12, ("ann", "bob"), (("ann", "bob"),), (("a", (1, 0), 4, ()), ("b", (1, 1), 6, ("bob",))))
        history = (("ann", (2, 1), 0), ("", (0, 0), 0), ("bob", (0, 1), 4), ("ann", (1, 0), 4))
        history = tuple(
            (reader, form, modulus) for reader, form, modulus in self.answered(policy, history)
        )
        paper = audit_paper(policy, history)
        self.assertIs(paper_holds(policy, history, paper), True)
        count = 0
        for thing in changed_places(paper):
            count += 1
            held = paper_holds(policy, history, thing)
            if held:
                # Another number may still be right, but not another kind of thing.
                self.assertEqual(thing, frozen(thing))
                self.assertNotIn("True", repr(thing))
                self.assertNotIn("False", repr(thing))
                self.assertTrue(self.holds(policy, history, thing), thing)
        self.assertGreater(count, 300)

    def answered(self, policy, history):
        """The entries with the moduli that are due."""
        made = ()
        for reader, form, modulus in history:
            if reader:
                concerned = [guard for _, group, guard in guards_of(policy, made) if reader in group]
                modulus = [m for m in [0] + model.all_divisors(policy[1])[::-1] if model.safe(concerned, form, m)][0]
            made += ((reader, form, modulus),)
        return made

    def holds(self, policy, history, paper):
        """Check the numbers of a paper by definition."""
        keeps, breaks = paper
        guards = guards_of(policy, history)
        for vector, (_, _, (known, form, margin)) in zip(keeps, guards):
            if value(form, vector) != margin:
                return False
            if not all(divides(modulus, value(asked, vector)) for asked, modulus in known.observations()):
                return False
        asked = [index for index, entry in enumerate(history) if entry[0]]
        for index, parts in zip(asked, breaks):
            reader, form, modulus = history[index]
            for other, (number, grain, witness) in zip(next_finer(modulus, policy[1]), parts):
                _, group, (known, secret, margin) = guards_of(policy, history[:index])[number]
                after = Knowledge(policy[0], known.observations() + ((form, other),))
                if reader not in group or divides(grain, margin):
                    return False
                if not is_known_witness(after, secret, grain, witness):
                    return False
        return True

    def test_parts_exchanged(self):
        history = STEPS + (("", (0, 0), 0),)
        keeps, breaks = audit_paper(SIMPLE, history)
        self.assertIs(paper_holds(SIMPLE, history, (keeps, breaks)), True)
        for thing in ((breaks, keeps), (keeps, breaks, ()), (keeps,), (keeps[1:] + keeps[:1], breaks), (keeps, breaks[::-1]),
                      (keeps, breaks[1:]), (keeps, breaks + ((),)), (keeps[1:], breaks), (keeps + keeps[:1], breaks),
                      [keeps, breaks], (list(keeps), breaks), (keeps, list(breaks)), (keeps, tuple(map(list, breaks)))):
            self.assertIs(paper_holds(SIMPLE, history, thing), False, thing)

    def test_any_object(self):
        for thing in ODD_THINGS:
            self.assertIs(paper_holds(SIMPLE, STEPS, thing), False)
            for pair in ((thing, thing), (thing, ()), ((), thing), ((thing,) * 3, (thing,) * 4)):
                self.assertIs(paper_holds(SIMPLE, STEPS, pair), False)
        keeps, _ = audit_paper(SIMPLE, STEPS)
        for thing in ODD_THINGS:
            self.assertIs(paper_holds(SIMPLE, STEPS, (keeps, (thing,) * 4)), False)
        empty = (1, 1, (), (), ())
        self.assertIs(paper_holds(empty, (), ((), ())), True)
        for thing in ODD_THINGS:
            self.assertIs(paper_holds(empty, (), thing), False)


if __name__ == "__main__":
    unittest.main()
