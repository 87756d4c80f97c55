import copy
import random
import unittest
from fractions import Fraction

from hushgrain.errors import BadForm, HushError
from hushgrain.knowledge import Knowledge
from hushgrain.lattice import contains
from hushgrain.witnesses import is_known_witness, is_world_witness, known_witness, world_witness
from support import ODD_THINGS, changed_places, divides, frozen, listed, random_vector, value

MODULI = ((0, 1, 2, 3, 4, 6, 12), (2, 4, 8, 9, 5040, 999983, 1000000), (0,), (5040, 2520, 0, 1))
EXAMPLE = Knowledge(2, [((1, 1), 0)])


def shows(knowledge, form, grain, witness):
    """Check a KNOWN witness by products and sums of Python's fractions."""
    base, parts = witness
    observed = knowledge.observations()
    assert isinstance(witness, tuple) and isinstance(base, tuple) and isinstance(parts, tuple)
    assert len(base) == knowledge.size() and len(parts) == len(observed)
    total = [Fraction(grain * x) for x in base]
    for part, (asked, modulus) in zip(parts, observed):
        top, bottom = part
        share = Fraction(top, bottom)
        assert isinstance(part, tuple) and (share.numerator, share.denominator) == part
        if grain == 0:
            assert share * modulus == 0
        else:
            assert (share * modulus / grain).denominator == 1
        total = [x + share * weight for x, weight in zip(total, asked)]
    return total == list(form)


def samples(seed, times):
    chance = random.Random(seed)
    for size in range(1, 13):
        for count in range(times):
            moduli, reach = chance.choice(MODULI), chance.choice((1, 3, 50, 10000))
            observations = [(random_vector(chance, size, reach), chance.choice(moduli)) for _ in range(count)]
            made = Knowledge(size, observations)
            forms = [random_vector(chance, size, reach), (0,) * size]
            if count:
                first, last = observations[0][0], observations[-1][0]
                forms.append(tuple(2 * x - 3 * y for x, y in zip(first, last)))
            yield chance, made, forms


class WitnessTest(unittest.TestCase):
    def bad_form(self, wanted, call, *arguments):
        with self.assertRaises(BadForm) as caught:
            call(*arguments)
        self.assertIsInstance(caught.exception, HushError)
        self.assertEqual(repr(caught.exception.form), repr(wanted))


class KnownTest(WitnessTest):
    def test_example(self):
        self.assertIs(is_known_witness(EXAMPLE, (1, -1), 2, ((0, -1), ((1, 1),))), True)
        self.assertTrue(shows(EXAMPLE, (1, -1), 2, known_witness(EXAMPLE, (1, -1))))

    def test_checked_by_products(self):
        for _, made, forms in samples(1, 12):
            for form in forms:
                grain = made.grain(form)
                found = known_witness(made, form)
                self.assertTrue(shows(made, form, grain, found))
                self.assertIs(is_known_witness(made, form, grain, found), True)
                self.assertEqual(repr(known_witness(knowledge=made, form=list(form))), repr(found))

    def test_without_observations(self):
        made = Knowledge(2)
        self.assertEqual(known_witness(made, (4, 6)), ((2, 3), ()))
        self.assertTrue(shows(made, (0, 0), 0, known_witness(made, (0, 0))))

    def test_known_exactly(self):
        made = Knowledge(3, [((1, 1, 0), 6), ((2, 0, 4), 0), ((0, 0, 3), 0), ((1, 0, 2), 0)])
        for form in ((1, 0, 0), (5, 0, 7), (0, 0, 1), (0, 0, 0)):
            found = known_witness(made, form)
            self.assertEqual(made.grain(form), 0)
            self.assertTrue(shows(made, form, 0, found))
            self.assertEqual(found[1][0], (0, 1))

    def test_shares_that_are_no_integers(self):
        made = Knowledge(1, [((2,), 4)])
        found = known_witness(made, (1,))
        self.assertEqual(made.grain((1,)), 2)
        self.assertTrue(shows(made, (1,), 2, found))
        exact = Knowledge(1, [((3,), 0)])
        self.assertEqual(known_witness(exact, (1,))[1], ((1, 3),))

    def test_200_observations(self):
        chance = random.Random(2)
        observations = [(random_vector(chance, 12, 10000), chance.randint(0, 10 ** 6)) for _ in range(200)]
        made = Knowledge(12, observations)
        form = random_vector(chance, 12, 10000)
        self.assertTrue(shows(made, form, made.grain(form), known_witness(made, form)))

    def test_bad_form(self):
        for form in ODD_THINGS + ((1,), (1, 2, 3), (1, True), [1, None]):
            if form == [1, 2]:
                continue
            wanted = frozen(form)
            self.bad_form(wanted, known_witness, EXAMPLE, form)
            self.bad_form(wanted, world_witness, EXAMPLE, form, 0)
            for thing in (None, (1, 2), ((0, -1), ((1, 1),))):
                self.bad_form(wanted, is_known_witness, EXAMPLE, form, 2, thing)
                self.bad_form(wanted, is_world_witness, EXAMPLE, form, 2, thing)


class IsKnownTest(WitnessTest):
    def test_others_that_hold(self):
        # 1 x = 2 (1) - 1/2 (2 x), with the share of 4 a multiple of 2.
        made = Knowledge(1, [((2,), 4)])
        for top in range(-9, 10, 2):
            thing = (((1 - top) // 2,), ((top, 2),))
            self.assertIs(is_known_witness(made, (1,), 2, thing), True)
        self.assertIs(is_known_witness(made, (1,), 1, ((1,), ((0, 1),))), True)
        self.assertIs(is_known_witness(made, (1,), 4, ((0,), ((1, 2),))), False)

    def test_only_divisors_of_the_grain(self):
        for chance, made, forms in samples(3, 4):
            for form in forms:
                grain = made.grain(form)
                base, parts = known_witness(made, form)
                for part in (1, 2, 3, 5, 7):
                    if grain % part == 0 and grain:
                        wide = (tuple(part * x for x in base), parts)
                        self.assertIs(is_known_witness(made, form, grain // part, wide), True)
                        less = (tuple(x // part for x in base), parts)
                        self.assertIs(is_known_witness(made, form, grain * part, less),
                                      part == 1)
                    if grain == 0:
                        nothing = ((0,) * len(form), parts)
                        self.assertIs(is_known_witness(made, form, part, nothing), True)

    def test_zero(self):
        made = Knowledge(2, [((1, 0), 0), ((0, 1), 6)])
        for base in ((0, 0), (5, -7), (10 ** 299, 0)):
            self.assertIs(is_known_witness(made, (3, 0), 0, (base, ((3, 1), (0, 1)))), True)
        self.assertIs(is_known_witness(made, (3, 1), 0, ((0, 0), ((3, 1), (1, 1)))), False)
        self.assertIs(is_known_witness(made, (3, 1), 0, ((0, 1), ((3, 1), (0, 1)))), False)
        self.assertIs(is_known_witness(made, (3, 1), 6, ((0, 0), ((3, 1), (1, 1)))), True)
        self.assertIs(is_known_witness(made, (0, 0), 0, ((9, 9), ((0, 1), (0, 1)))), True)
        vacuous = Knowledge(1, [((0,), 5), ((1,), 1)])
        self.assertIs(is_known_witness(vacuous, (0,), 0, ((1,), ((0, 1), (0, 1)))), True)
        self.assertIs(is_known_witness(vacuous, (0,), 0, ((1,), ((1, 1), (0, 1)))), False)

    def test_a_share_must_be_a_multiple(self):
        made = Knowledge(1, [((1,), 6)])
        self.assertIs(is_known_witness(made, (1,), 6, ((0,), ((1, 1),))), True)
        self.assertIs(is_known_witness(made, (1,), 12, ((0,), ((1, 1),))), False)
        self.assertIs(is_known_witness(made, (2,), 12, ((0,), ((2, 1),))), True)
        self.assertIs(is_known_witness(made, (1,), 4, ((0,), ((1, 1),))), False)
        self.assertIs(is_known_witness(made, (1,), 3, ((0,), ((1, 1),))), True)

    def test_every_change_of_one_thing(self):
        made = Knowledge(2, [((2, 1), 0), ((0, 3), 4), ((1, 1), 6)])
        form = (1, 5)
        grain = made.grain(form)
        self.assertGreater(grain, 1)
        found = known_witness(made, form)
        self.assertIs(is_known_witness(made, form, grain, found), True)
        self.assertIs(is_known_witness(made, form, grain, listed(found)), False)
        for thing in changed_places(found):
            self.assertIs(is_known_witness(made, form, grain, thing), False, thing)

    def test_fractions_that_are_none(self):
        made = Knowledge(1, [((2,), 4)])
        self.assertIs(is_known_witness(made, (1,), 2, ((1,), ((-1, 2),))), True)
        for part in ((-2, 4), (1, -2), (-10, 20), (-1, 0), (-1, 2, 1), (-1,), (), [-1, 2], -1, None, "-1",
                     (-1, True), ("-1", 2), (-1, "2"), ((-1,), 2)):
            self.assertIs(is_known_witness(made, (1,), 2, ((1,), (part,))), False, part)
        even = Knowledge(1, [((1,), 4)])
        self.assertIs(is_known_witness(even, (2,), 2, ((1,), ((0, 1),))), True)
        for part in ((0, 2), (0, -1), (0, 0), (False, 1), (0, True), (0,)):
            self.assertIs(is_known_witness(even, (2,), 2, ((1,), (part,))), False, part)

    def test_parts_missing_or_too_many(self):
        made = Knowledge(1, [((1,), 2), ((1,), 2)])
        self.assertIs(is_known_witness(made, (1,), 2, ((0,), ((1, 1), (0, 1)))), True)
        self.assertIs(is_known_witness(made, (1,), 2, ((0,), ((1, 1),))), False)
        self.assertIs(is_known_witness(made, (1,), 2, ((0,), ((1, 1), (0, 1), (0, 1)))), False)
        self.assertIs(is_known_witness(made, (1,), 2, ((0, 0), ((1, 1), (0, 1)))), False)
        self.assertIs(is_known_witness(made, (1,), 2, ((), ((1, 1), (0, 1)))), False)

    def test_any_object(self):
        for thing in ODD_THINGS + (((1, 2), ()), ((1, 2), None), (None, ((1, 1),))):
            self.assertIs(is_known_witness(EXAMPLE, (1, -1), 2, thing), False, thing)

    def test_many_digits(self):
        big = 10 ** 299
        made = Knowledge(2, [((1, 2), 0), ((2, 4), 0)])
        parts = ((1 - 2 * big, 1), (big, 1))
        self.assertIs(is_known_witness(made, (1, 2), 0, ((big, big), parts)), True)
        self.assertIs(is_known_witness(made, (1, 2), 0, ((big, big), (parts[0], (big + 1, 1)))), False)
        self.assertIs(is_known_witness(made, (1, 2), big, ((0, 0), parts)), True)

    def test_stays_one_behind_another_observation(self):
        for chance, made, forms in samples(4, 4):
            more = made.observe(random_vector(chance, made.size(), 9), chance.choice((0, 7, 12)))
            for form in forms:
                base, parts = known_witness(made, form)
                thing = (base, parts + ((0, 1),))
                self.assertIs(is_known_witness(more, form, made.grain(form), thing), True)

    def test_keywords_and_argument_stays(self):
        thing = [[0, -1], [[1, 1]]]
        before = copy.deepcopy(thing)
        self.assertIs(is_known_witness(thing=thing, grain=2, form=[1, -1], knowledge=EXAMPLE), False)
        self.assertEqual(thing, before)
        self.assertIs(is_known_witness(thing=((0, -1), ((1, 1),)), grain=2, form=[1, -1], knowledge=EXAMPLE), True)


class WorldTest(WitnessTest):
    def test_example(self):
        self.assertIs(is_world_witness(EXAMPLE, (1, -1), 2, (1, -1)), True)
        found = world_witness(EXAMPLE, (1, -1), 2)
        self.assertEqual(value((1, -1), found), 2)
        self.assertEqual(value((1, 1), found), 0)

    def test_checked_by_products(self):
        for _, made, forms in samples(5, 8):
            for form in forms:
                grain = made.grain(form)
                for amount in (0, 1, 2, 5, grain, -3 * grain, grain + 1, 10 ** 299 * grain):
                    found = world_witness(made, form, amount)
                    self.assertIs(found is None, not divides(grain, amount))
                    if found is not None:
                        self.assertIsInstance(found, tuple)
                        self.assertEqual(len(found), made.size())
                        self.assertEqual(value(form, found), amount)
                        for asked, modulus in made.observations():
                            self.assertTrue(divides(modulus, value(asked, found)))
                        self.assertIs(is_world_witness(made, form, amount, found), True)
                    again = world_witness(amount=amount, form=list(form), knowledge=made)
                    self.assertEqual(again, found)

    def test_is_world_witness_by_search(self):
        made = Knowledge(2, [((1, 2), 3), ((2, 0), 4)])
        for x in range(-9, 10):
            for y in range(-9, 10):
                inside = contains(made.basis(), (x, y))
                self.assertIs(inside, (x + 2 * y) % 3 == 0 and 2 * x % 4 == 0)
                for amount in (0, 1, 4, x - y):
                    wanted = inside and x - y == amount
                    self.assertIs(is_world_witness(made, (1, -1), amount, (x, y)), wanted)

    def test_exact_observations(self):
        made = Knowledge(3, [((1, 1, 1), 0)])
        self.assertIs(is_world_witness(made, (1, 0, 0), 5, (5, -5, 0)), True)
        self.assertIs(is_world_witness(made, (1, 0, 0), 5, (5, -5, 1)), False)
        self.assertIs(is_world_witness(made, (1, 0, 0), 0, (0, 0, 0)), True)

    def test_every_change_of_one_thing(self):
        made = Knowledge(3, [((1, 1, 0), 0), ((0, 1, 2), 7)])
        form, amount = (2, 3, 5), 4
        found = world_witness(made, form, amount)
        self.assertIs(is_world_witness(made, form, amount, found), True)
        for thing in changed_places(found):
            self.assertIs(is_world_witness(made, form, amount, thing), False, thing)
        for other in (amount + 1, amount - 1, -amount, 0):
            self.assertIs(is_world_witness(made, form, other, found), False)

    def test_bools_in_the_place_of_integers(self):
        made = Knowledge(2)
        self.assertIs(is_world_witness(made, (1, 0), 1, (1, 0)), True)
        for thing in ((True, 0), (1, False), [1, 0], (1, 0, 0), (1,)):
            self.assertIs(is_world_witness(made, (1, 0), 1, thing), False)

    def test_any_object(self):
        for thing in ODD_THINGS:
            self.assertIs(is_world_witness(EXAMPLE, (1, -1), 0, thing), False, thing)

    def test_keywords_and_argument_stays(self):
        thing = [1, -1]
        self.assertIs(is_world_witness(thing=thing, amount=2, form=[1, -1], knowledge=EXAMPLE), False)
        self.assertIs(is_world_witness(thing=(1, -1), amount=2, form=[1, -1], knowledge=EXAMPLE), True)
        self.assertEqual(thing, [1, -1])


if __name__ == "__main__":
    unittest.main()
