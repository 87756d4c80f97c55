import copy
import random
import unittest
from math import gcd

from hushgrain.errors import HushError, NotKept
from hushgrain.guards import (
    break_of, finest_modulus, holds, is_break, is_safe, keep_witness, safe_divisors,
)
from hushgrain.knowledge import Knowledge
from hushgrain.numbers import divisors
from hushgrain.witnesses import is_known_witness, is_world_witness, known_witness
from support import ODD_THINGS, changed_places, divides, random_vector, value

BOUNDS = (1, 12, 5040, 1000000)
MARGINS = (1, 2, 3, 4, 10, 12, 60, 5040, 1000000)


def kept(guard):
    knowledge, form, margin = guard
    return divides(knowledge.grain(form), margin)


def kept_behind(guard, form, modulus):
    """By definition: with a new Knowledge that has the observation, too."""
    knowledge, secret, margin = guard
    observations = knowledge.observations() + ((form, modulus),)
    return kept((Knowledge(knowledge.size(), observations), secret, margin))


def random_guard(chance, size, reach=3):
    observations = [
        (random_vector(chance, size, reach), chance.choice((0, 1, 2, 3, 4, 6, 12, 720)))
        for _ in range(chance.randint(0, 3))
    ]
    return Knowledge(size, observations), random_vector(chance, size, reach), chance.choice(MARGINS)


def samples(seed, times, largest=4):
    """Lists of guards that hold, and forms."""
    chance = random.Random(seed)
    for k in range(times):
        size = 1 + k % largest
        guards = [random_guard(chance, size) for _ in range(chance.randint(0, 4))]
        yield [guard for guard in guards if kept(guard)], random_vector(chance, size, 4)


class HoldsTest(unittest.TestCase):
    def test_example(self):
        guard = (Knowledge(2, [((1, 1), 0)]), (1, 0), 1)
        self.assertIs(holds(guard), True)
        self.assertIs(is_world_witness(guard[0], (1, 0), 1, keep_witness(guard)), True)
        self.assertIs(is_world_witness(guard[0], (1, 0), 1, (1, -1)), True)

    def test_by_grain_and_witness(self):
        chance = random.Random(1)
        for _ in range(300):
            guard = random_guard(chance, chance.randint(1, 5))
            knowledge, form, margin = guard
            self.assertIs(holds(guard), kept(guard))
            found = keep_witness(guard)
            self.assertIs(found is not None, kept(guard))
            if found is not None:
                self.assertIsInstance(found, tuple)
                self.assertEqual(value(form, found), margin)
                for asked, modulus in knowledge.observations():
                    self.assertTrue(divides(modulus, value(asked, found)))
            self.assertEqual(keep_witness(list(guard)), found)

    def test_edges(self):
        exact = Knowledge(1, [((1,), 0)])
        self.assertIs(holds((exact, (1,), 1)), False)
        self.assertIs(holds((exact, (1,), 1000000)), False)
        self.assertIsNone(keep_witness((exact, (1,), 1000000)))
        self.assertIs(holds((Knowledge(1), (0,), 1)), False)
        for margin, wanted in ((1, False), (2, False), (3, True), (4, False), (6, True), (1000000, False)):
            guard = (Knowledge(1, [((1,), 3)]), (1,), margin)
            self.assertIs(holds(guard), wanted)
            self.assertEqual(keep_witness(guard), (margin,) if wanted else None)
        self.assertEqual(keep_witness((Knowledge(1), (1,), 1000000)), (1000000,))

    def test_keywords_and_arguments_stay(self):
        guard = [Knowledge(2, [((1, 1), 0)]), [1, 0], 1]
        self.assertIs(holds(guard=guard), True)
        self.assertEqual(value((1, 0), keep_witness(guard=guard)), 1)
        self.assertEqual(guard, [Knowledge(2, [((1, 1), 0)]), [1, 0], 1])


class SafeTest(unittest.TestCase):
    def fails(self, index, call, *arguments, **named):
        with self.assertRaises(NotKept) as caught:
            call(*arguments, **named)
        self.assertIsInstance(caught.exception, HushError)
        self.assertEqual(caught.exception.index, index)

    def test_examples(self):
        self.assertIs(is_safe([(Knowledge(2), (1, 1), 1)], (1, 1), 2), False)
        guards = [(Knowledge(1), (1,), 4)]
        self.assertEqual(safe_divisors(guards, (1,), 12), (1, 2, 4))
        self.assertEqual(finest_modulus(guards, (1,), 12), 4)

    def test_every_divisor_and_zero(self):
        for guards, form in samples(2, 120):
            for bound in (1, 12, 5040):
                safe = tuple(m for m in divisors(bound) if all(kept_behind(g, form, m) for g in guards))
                exact = all(kept_behind(guard, form, 0) for guard in guards)
                for modulus in divisors(bound):
                    self.assertIs(is_safe(guards, form, modulus), modulus in safe)
                self.assertIs(is_safe(guards, form, 0), exact)
                self.assertEqual(safe_divisors(guards, form, bound), safe)
                self.assertEqual(finest_modulus(guards, form, bound), 0 if exact else max(safe))
                self.assertTrue(all(max(safe) % modulus == 0 for modulus in safe))
                if exact:
                    self.assertEqual(safe, divisors(bound))

    def test_large_bounds_and_sizes(self):
        chance = random.Random(3)
        for guards, form in samples(4, 24, 12):
            for bound in BOUNDS:
                found = safe_divisors(guards, form, bound)
                for modulus in chance.sample(divisors(bound), min(5, len(divisors(bound)))):
                    wanted = all(kept_behind(guard, form, modulus) for guard in guards)
                    self.assertIs(modulus in found, wanted)
                finest = finest_modulus(guards, form, bound)
                self.assertEqual(found, divisors(finest or bound))
                self.assertIs(is_safe(guards, form, finest), True)

    def test_moduli_that_do_not_divide_a_bound(self):
        for guards, form in samples(5, 60):
            for modulus in (5, 7, 11, 13, 999983, 999999):
                wanted = all(kept_behind(guard, form, modulus) for guard in guards)
                self.assertIs(is_safe(guards, form, modulus), wanted)

    def test_no_guards(self):
        for modulus in (0, 1, 2, 1000000):
            self.assertIs(is_safe([], (1, 2), modulus), True)
            self.assertIs(is_safe((), (1, 2), modulus), True)
            self.assertIsNone(break_of([], (1, 2), modulus))
        for bound in BOUNDS:
            self.assertEqual(safe_divisors([], (1, 2), bound), divisors(bound))
            self.assertEqual(finest_modulus((), (1, 2), bound), 0)

    def test_forms_that_tell_nothing(self):
        guards = [(Knowledge(2, [((1, 1), 0)]), (1, 0), 1)]
        for form in ((0, 0), (1, 1), (-7, -7)):
            self.assertEqual(finest_modulus(guards, form, 5040), 0)
            self.assertIs(is_safe(guards, form, 0), True)
        self.assertEqual(finest_modulus(guards, (1, 0), 5040), 1)
        self.assertEqual(safe_divisors(guards, (1, 2), 5040), (1,))
        self.assertEqual(safe_divisors(guards, (2, 0), 5040), (1, 2))
        self.assertEqual(finest_modulus([(Knowledge(2), (1, 0), 1)], (1, 1), 5040), 0)

    def test_one_of_several_guards_counts(self):
        one, other = (Knowledge(1), (1,), 4), (Knowledge(1), (1,), 6)
        self.assertEqual(safe_divisors([one, other], (1,), 12), (1, 2))
        self.assertEqual(safe_divisors([other, one], (1,), 12), (1, 2))
        self.assertEqual(finest_modulus([one, other], (1,), 12), 2)
        self.assertEqual(finest_modulus([other], (1,), 12), 6)

    def test_zero_above_the_bound(self):
        # The exact value is safe if and only if 0 is, whatever the bound is.
        guards = [(Knowledge(2), (1, 0), 1)]
        for bound in BOUNDS:
            self.assertEqual(finest_modulus(guards, (0, 1), bound), 0)
            self.assertEqual(safe_divisors(guards, (0, 1), bound), divisors(bound))
            shared = gcd(bound, 1000000)
            self.assertEqual(finest_modulus([(Knowledge(1), (1,), 1000000)], (1,), bound), shared)

    def test_a_guard_that_does_not_hold_now(self):
        good = (Knowledge(1), (1,), 6)
        bad = (Knowledge(1, [((1,), 4)]), (1,), 6)
        worse = (Knowledge(1, [((1,), 0)]), (1,), 6)
        for guards, index in (([bad], 0), ([good, bad], 1), ([good, good, worse, bad], 2), ([bad, good], 0)):
            for modulus in (0, 1, 2, 6):
                self.assertIs(is_safe(guards, (1,), modulus), False)
                self.assertIs(is_safe(guards, (0,), modulus), False)
            for bound in BOUNDS:
                self.fails(index, safe_divisors, guards, (1,), bound)
                self.fails(index, finest_modulus, guards, (1,), bound)
                self.fails(index, finest_modulus, bound=bound, form=[0], guards=tuple(guards))

    def test_keywords_lists_and_arguments_stay(self):
        guards = [[Knowledge(1), [1], 4]]
        before = copy.copy(guards[0])
        form = [1]
        for _ in range(2):
            self.assertIs(is_safe(modulus=4, form=form, guards=guards), True)
            self.assertIs(is_safe(modulus=3, form=form, guards=guards), False)
            self.assertEqual(safe_divisors(bound=12, form=form, guards=guards), (1, 2, 4))
            self.assertEqual(finest_modulus(bound=12, form=form, guards=guards), 4)
        self.assertEqual((guards, form), ([before], [1]))


class BreakTest(unittest.TestCase):
    def test_example(self):
        guards = [(Knowledge(2), (1, 1), 1)]
        self.assertIs(is_break(guards, (1, 1), 2, (0, 2, ((0, 0), ((1, 1),)))), True)
        index, grain, witness = break_of(guards, (1, 1), 2)
        self.assertEqual((index, grain), (0, 2))
        self.assertIs(is_known_witness(guards[0][0].observe((1, 1), 2), (1, 1), 2, witness), True)

    def test_none_just_where_the_modulus_is_safe(self):
        for guards, form in samples(6, 120):
            for modulus in (0, 1, 2, 3, 4, 5, 12, 60, 5040, 999983):
                self.check_break(guards, form, modulus)

    def test_guards_that_do_not_hold_now(self):
        chance = random.Random(7)
        for _ in range(60):
            size = chance.randint(1, 3)
            guards = [random_guard(chance, size) for _ in range(3)]
            for modulus in (0, 1, 6):
                self.check_break(guards, random_vector(chance, size, 3), modulus)

    def check_break(self, guards, form, modulus):
        broken = [k for k, guard in enumerate(guards) if not kept_behind(guard, form, modulus)]
        found = break_of(guards, form, modulus)
        self.assertEqual(break_of(tuple(guards), list(form), modulus), found)
        if not broken:
            self.assertIsNone(found)
            return
        self.assertIsInstance(found, tuple)
        index, grain, witness = found
        self.assertEqual(index, broken[0])
        knowledge, secret, margin = guards[index]
        after = Knowledge(knowledge.size(), knowledge.observations() + ((form, modulus),))
        self.assertEqual(grain, after.grain(secret))
        self.assertFalse(divides(grain, margin))
        self.assertIs(is_known_witness(after, secret, grain, witness), True)
        self.assertIs(is_break(guards, form, modulus, found), True)
        for other in broken[1:]:
            knowledge, secret, margin = guards[other]
            after = knowledge.observe(form, modulus)
            thing = (other, after.grain(secret), known_witness(after, secret))
            self.assertIs(is_break(guards, form, modulus, thing), True)

    def test_another_grain(self):
        guards = [(Knowledge(1), (1,), 2)]
        # With the residue modulo 12 the residues modulo 4 and 6 are known as well.
        for grain, share, wanted in ((12, 1, True), (6, 1, True), (4, 1, True), (3, 1, True), (2, 1, False),
                                     (1, 1, False), (5, 1, False), (24, 1, False), (0, 1, False), (-3, 1, False)):
            thing = (0, grain, ((0,), ((share, 1),)))
            self.assertIs(is_break(guards, (1,), 12, thing), wanted, thing)
        self.assertIs(is_break(guards, (1,), 0, (0, 0, ((0,), ((1, 1),)))), True)
        self.assertIs(is_break(guards, (1,), 0, (0, 7, ((0,), ((1, 1),)))), True)
        self.assertIs(is_break(guards, (1,), 0, (0, 2, ((0,), ((1, 1),)))), False)

    def test_another_guard(self):
        guards = [(Knowledge(2), (1, 0), 1), (Knowledge(2), (0, 1), 1), (Knowledge(2), (1, 1), 1)]
        witness = ((0, 0), ((1, 1),))
        for index in range(-3, 5):
            thing = (index, 5, witness)
            self.assertIs(is_break(guards, (1, 1), 5, thing), index == 2)

    def test_every_change_of_one_thing(self):
        guards = [(Knowledge(2, [((1, 1), 6)]), (1, 2), 7), (Knowledge(2), (3, 1), 1000)]
        form, modulus = (0, 1), 12
        found = break_of(guards, form, modulus)
        self.assertIs(is_break(guards, form, modulus, found), True)
        for thing in changed_places(found):
            self.assertIs(is_break(guards, form, modulus, thing), False, thing)

    def test_bools_and_lists(self):
        guards = [(Knowledge(1), (1,), 4), (Knowledge(1), (1,), 4)]
        witness = ((0,), ((1, 1),))
        self.assertIs(is_break(guards, (1,), 8, (1, 8, witness)), True)
        for thing in ((True, 8, witness), (False, 8, witness), [1, 8, witness], (1, 8, list(witness)),
                      (1, 8, ([0], ((1, 1),))), (1, 8, ((0,), [(1, 1)])), (1, 8, ((0,), ([1, 1],))),
                      (1, 8, witness, 0), (1, 8), (1, True, witness), (1, "8", witness), ("1", 8, witness),
                      (None, 8, witness), (1, None, witness), (1, 8, None), ((1,), 8, witness)):
            self.assertIs(is_break(guards, (1,), 8, thing), False, thing)
        zero = [(Knowledge(1), (1,), 4)]
        self.assertIs(is_break(zero, (1,), 0, (0, 0, witness)), True)
        self.assertIs(is_break(zero, (1,), 0, (0, False, witness)), False)

    def test_any_object(self):
        guards = [(Knowledge(2), (1, 1), 1)]
        for thing in ODD_THINGS:
            for modulus in (0, 1, 2):
                self.assertIs(is_break(guards, (1, 1), modulus, thing), False, thing)
            self.assertIs(is_break([], (1, 1), 2, thing), False, thing)

    def test_keywords_and_arguments_stay(self):
        guards = [[Knowledge(2), [1, 1], 1]]
        first = break_of(modulus=2, form=[1, 1], guards=guards)
        self.assertEqual(break_of(guards, (1, 1), 2), first)
        self.assertIs(is_break(thing=first, modulus=2, form=[1, 1], guards=guards), True)
        self.assertEqual(guards, [[Knowledge(2), [1, 1], 1]])


if __name__ == "__main__":
    unittest.main()
