import copy
import random
import unittest
from math import gcd

from hushgrain.errors import BadCells, BadForm, BadModulus, BadSize, HushError
from hushgrain.knowledge import Knowledge
from hushgrain.lattice import contains, meet_of, project, restrict, whole
from support import ODD_THINGS, box, divides, frozen, listed, random_vector, units, value

MODULI = (0, 1, 2, 3, 4, 6, 12, 5040, 1000000)
NO_MODULI = (-1, 1000001, True, False, None, "2", "", (), [], (2,), [2], [[2], 3], -10 ** 30, 10 ** 30)


def no_forms(size):
    """Objects that are no forms of this size."""
    good = tuple(range(1, size + 1))
    yield from (thing for thing in ODD_THINGS if thing not in ([1, 2],))
    yield good + (1,)
    yield good[:-1]
    yield list(good) + [1]
    for other in (True, False, None, "1", (1,), [1]):
        yield good[:-1] + (other,)
        yield [other] + list(good[1:])


def random_observations(chance, size, count, reach=9, moduli=MODULI):
    return [(random_vector(chance, size, reach), chance.choice(moduli)) for _ in range(count)]


def samples(seed, times):
    chance = random.Random(seed)
    for size in range(1, 13):
        for count in range(times):
            yield chance, size, random_observations(chance, size, count)


class KnowledgeTest(unittest.TestCase):
    def fails(self, error, field, wanted, call, *arguments, **named):
        with self.assertRaises(error) as caught:
            call(*arguments, **named)
        self.assertIsInstance(caught.exception, HushError)
        self.assertEqual(repr(getattr(caught.exception, field)), repr(wanted))


class MakingTest(KnowledgeTest):
    def test_example(self):
        self.assertEqual(Knowledge(2, [((1, 1), 0)]).basis(), ((1, -1),))

    def test_bad_size(self):
        for size in (0, 13, -1, 10 ** 30, -10 ** 30, True, False, None, "", "2", (), [], (2,), [2], [[2], 3]):
            self.fails(BadSize, "found", frozen(size), Knowledge, size)
            self.fails(BadSize, "found", frozen(size), Knowledge, size, [((1, True), -1)])
            self.fails(BadSize, "found", frozen(size), Knowledge, observations=[(None, None)], size=size)

    def test_every_size(self):
        for size in range(1, 13):
            for made in (Knowledge(size), Knowledge(size, ()), Knowledge(size, []), Knowledge(size=size)):
                self.assertEqual(made.size(), size)
                self.assertEqual(made.observations(), ())
                self.assertEqual(made.basis(), whole(size))
                self.assertEqual(len(made), 0)

    def test_bad_form(self):
        for size in (1, 2, 3, 12):
            for form in no_forms(size):
                if size == 2 and frozen(form) == (1, 2):
                    continue
                self.fails(BadForm, "form", frozen(form), Knowledge, size, [(form, 0)])
                self.fails(BadForm, "form", frozen(form), Knowledge, size, ([form, -1],))

    def test_bad_modulus(self):
        for modulus in NO_MODULI:
            self.fails(BadModulus, "modulus", frozen(modulus), Knowledge, 2, [((1, 2), modulus)])
            self.fails(BadModulus, "modulus", frozen(modulus), Knowledge, 2, [[[1, 2], modulus]])
        for modulus in (0, 1, 2, 999999, 1000000):
            self.assertEqual(Knowledge(1, [((1,), modulus)]).observations(), (((1,), modulus),))

    def test_the_first_invalid_observation(self):
        good, form, modulus = ((1, 2), 3), ((1,), 3), ((1, 2), -3)
        self.fails(BadForm, "form", (1,), Knowledge, 2, [good, form, modulus])
        self.fails(BadModulus, "modulus", -3, Knowledge, 2, [good, modulus, form])
        self.fails(BadModulus, "modulus", -3, Knowledge, 2, [modulus, ((1, 2), -4)])
        self.fails(BadForm, "form", (1, 2, 3), Knowledge, 2, [good, ((1, 2, 3), 3), ((1,), 3)])
        self.fails(BadForm, "form", (1,), Knowledge, 2, [good, ((1,), -3)])
        self.fails(BadModulus, "modulus", True, Knowledge, 2, [good, good, ((1, 2), True), form])

    def test_what_it_returns(self):
        for _, size, observations in samples(1, 6):
            for passed in (observations, tuple(observations), listed(observations)):
                made = Knowledge(size, passed)
                self.assertEqual(made.size(), size)
                self.assertEqual(len(made), len(observations))
                self.assertEqual(repr(made.observations()), repr(tuple(observations)))
                wanted = whole(size)
                for form, modulus in observations:
                    wanted = restrict(wanted, form, modulus)
                self.assertEqual(made.basis(), wanted)

    def test_basis_by_search(self):
        chance = random.Random(2)
        for size in (1, 2, 3):
            for _ in range(40):
                observations = random_observations(chance, size, chance.randint(0, 3), 4, MODULI[:6])
                basis = Knowledge(size, observations).basis()
                for vector in box(size, 4 if size < 3 else 2):
                    wanted = all(divides(m, value(q, vector)) for q, m in observations)
                    self.assertIs(contains(basis, vector), wanted)

    def test_200_observations(self):
        chance = random.Random(3)
        observations = random_observations(chance, 12, 200, 10000, range(2, 1000001))
        made = Knowledge(12, observations)
        self.assertEqual(len(made), 200)
        for form, modulus in observations:
            self.assertIs(made.follows(form, modulus), True)

    def test_later_changes_have_no_effect(self):
        observations = [[[1, 1], 4], ([1, 0], 2)]
        before = copy.deepcopy(observations)
        made = Knowledge(2, observations)
        basis = made.basis()
        self.assertEqual(observations, before)
        observations[0][0][0] = 9
        observations[0][1] = 0
        observations[1][0].append(5)
        observations.pop()
        self.assertEqual(made.observations(), (((1, 1), 4), ((1, 0), 2)))
        self.assertEqual(made.basis(), basis)
        self.assertEqual(made.grain((1, 1)), 4)


class AskingTest(KnowledgeTest):
    def test_grain_examples(self):
        known = Knowledge(2, [((1, 1), 0)])
        self.assertEqual(known.grain((2, 2)), 0)
        self.assertEqual(known.grain((1, 0)), 1)
        self.assertEqual(known.grain((1, -1)), 2)

    def test_grain(self):
        for chance, size, observations in samples(4, 6):
            made = Knowledge(size, observations)
            for form in units(size) + [random_vector(chance, size, 9), (0,) * size]:
                wanted = 0
                for row in made.basis():
                    wanted = gcd(wanted, value(form, row))
                self.assertEqual(made.grain(form), wanted)
                self.assertEqual(made.grain(form=list(form)), wanted)
            for form, modulus in observations:
                self.assertTrue(divides(modulus, made.grain(form)))
            self.assertEqual(made.grain((0,) * size), 0)

    def test_bad_forms(self):
        for size in (1, 2, 3, 12):
            made = Knowledge(size, [((1,) * size, 6)])
            for form in no_forms(size):
                if size == 2 and frozen(form) == (1, 2):
                    continue
                wanted = frozen(form)
                self.fails(BadForm, "form", wanted, made.grain, form)
                for modulus in (0, 6, -1, True, None):
                    self.fails(BadForm, "form", wanted, made.follows, form, modulus)
                    self.fails(BadForm, "form", wanted, made.observe, form=form, modulus=modulus)

    def test_bad_moduli(self):
        made = Knowledge(2, [((1, 1), 6)])
        for modulus in NO_MODULI:
            self.fails(BadModulus, "modulus", frozen(modulus), made.follows, (1, 1), modulus)
            self.fails(BadModulus, "modulus", frozen(modulus), made.follows, [0, 0], modulus)
            self.fails(BadModulus, "modulus", frozen(modulus), made.observe, (1, 1), modulus)
        self.assertEqual(len(made), 1)

    def test_follows(self):
        self.assertIs(Knowledge(2, [((1, 1), 0)]).follows((1, -1), 2), True)
        made = Knowledge(2, [((1, 1), 0), ((1, 0), 6)])
        for modulus in range(60):
            self.assertIs(made.follows((2, 2), modulus), True)
            self.assertIs(made.follows((1, 0), modulus), modulus != 0 and 6 % modulus == 0)
            self.assertIs(made.follows((1, -1), modulus), modulus != 0 and 12 % modulus == 0)
        self.assertIs(Knowledge(1).follows((1,), 1), True)
        self.assertIs(Knowledge(1).follows((1,), 2), False)
        self.assertIs(Knowledge(1).follows((1,), 0), False)
        self.assertIs(Knowledge(1).follows((0,), 0), True)

    def test_follows_just_if_nothing_is_added(self):
        for chance, size, observations in samples(5, 5):
            made = Knowledge(size, observations)
            for modulus in MODULI:
                form = random_vector(chance, size, 3)
                wanted = made.observe(form, modulus) == made
                self.assertIs(made.follows(form, modulus), wanted)
                self.assertIs(made.follows(modulus=modulus, form=list(form)), wanted)


class GrowingTest(KnowledgeTest):
    def test_observe(self):
        for chance, size, observations in samples(6, 5):
            made = Knowledge(size)
            for k, (form, modulus) in enumerate(observations):
                before = (made.observations(), made.basis(), len(made))
                passed = list(form)
                more = made.observe(passed, modulus)
                passed[0] += 1
                self.assertEqual((made.observations(), made.basis(), len(made)), before)
                self.assertIsInstance(more, Knowledge)
                self.assertEqual(more.observations(), tuple(observations[:k + 1]))
                self.assertEqual(more.basis(), Knowledge(size, observations[:k + 1]).basis())
                self.assertEqual(made.observe(form=form, modulus=modulus), more)
                made = more

    def test_joined(self):
        for chance, size, observations in samples(7, 5):
            others = random_observations(chance, size, chance.randint(0, 4))
            one, other = Knowledge(size, observations), Knowledge(size, others)
            both = one.joined(other)
            self.assertEqual(both.observations(), tuple(observations + others))
            self.assertEqual(other.joined(one).observations(), tuple(others + observations))
            self.assertEqual(both.basis(), meet_of(one.basis(), other.basis(), size))
            self.assertEqual(one.joined(other=other), other.joined(one))
            self.assertEqual(len(one.joined(one)), 2 * len(one))
            self.assertEqual(one.observations(), tuple(observations))
            self.assertEqual(other.observations(), tuple(others))
            self.assertEqual(both.spare(), Knowledge(size, observations + others).spare())

    def test_other_sizes(self):
        for size in (1, 2, 12):
            for other in (1, 3, 12):
                if size != other:
                    made = Knowledge(size)
                    self.fails(BadSize, "found", other, made.joined, Knowledge(other))
                    self.fails(BadSize, "found", other, made.knows, other=Knowledge(other))

    def test_order_of_observations_does_not_count(self):
        for chance, size, observations in samples(8, 7):
            mixed = list(observations)
            chance.shuffle(mixed)
            one, other = Knowledge(size, observations), Knowledge(size, mixed)
            self.assertEqual(one, other)
            self.assertEqual(one.basis(), other.basis())
            form = random_vector(chance, size, 9)
            self.assertEqual(one.grain(form), other.grain(form))


class ComparingTest(KnowledgeTest):
    def test_equal(self):
        one = Knowledge(2, [((1, 1), 4)])
        for other in (one, Knowledge(2, [((1, 1), 4)]), Knowledge(2, [((3, 3), 4), ((1, 1), 2)])):
            self.assertTrue(one == other and other == one)
            self.assertFalse(one != other or other != one)
        for other in (Knowledge(2), Knowledge(2, [((1, 1), 8)]), Knowledge(2, [((1, 1), 0)]),
                      Knowledge(2, [((1, -1), 4)]), Knowledge(3, [((1, 1, 0), 4)])):
            self.assertTrue(one != other and other != one)
            self.assertFalse(one == other or other == one)

    def test_sizes_count_where_the_bases_are_both_empty(self):
        one = Knowledge(1, [((1,), 0)])
        two = Knowledge(2, [((1, 0), 0), ((0, 1), 0)])
        self.assertEqual(one.basis(), two.basis())
        self.assertTrue(one != two)
        self.assertFalse(one == two)

    def test_no_other_object(self):
        made = Knowledge(2)
        for thing in ODD_THINGS + (made.basis(), made.observations(), {}, Knowledge, object()):
            self.assertFalse(made == thing)
            self.assertTrue(made != thing)
            self.assertFalse(thing == made)

    def test_knows(self):
        for chance, size, observations in samples(9, 5):
            others = random_observations(chance, size, chance.randint(0, 2), 2)
            one, other = Knowledge(size, observations), Knowledge(size, others)
            wanted = all(one.follows(form, modulus) for form, modulus in others)
            self.assertIs(one.knows(other), wanted)
            self.assertIs(one.joined(other).knows(other), True)
            self.assertIs(one.knows(one), True)
            self.assertIs(one.knows(Knowledge(size)), True)
            self.assertIs(Knowledge(size).knows(one), one == Knowledge(size))
        fine, coarse = Knowledge(1, [((1,), 4)]), Knowledge(1, [((1,), 2)])
        self.assertIs(fine.knows(coarse), True)
        self.assertIs(coarse.knows(fine), False)


class SpareTest(KnowledgeTest):
    def test_examples(self):
        self.assertEqual(Knowledge(1, [((1,), 4), ((1,), 2), ((3,), 6)]).spare(), (1, 2))

    def test_by_definition(self):
        for chance, size, observations in samples(10, 9):
            made = Knowledge(size, observations)
            wanted = tuple(
                k for k, (form, modulus) in enumerate(observations)
                if Knowledge(size, observations[:k]).follows(form, modulus)
            )
            self.assertEqual(made.spare(), wanted)
            self.assertEqual(made.spare(), wanted)

    def test_edges(self):
        self.assertEqual(Knowledge(3).spare(), ())
        self.assertEqual(Knowledge(1, [((1,), 1), ((0,), 0), ((1,), 0), ((5,), 7)]).spare(), (0, 1, 3))
        self.assertEqual(Knowledge(1, [((1,), 2), ((1,), 4), ((1,), 0)]).spare(), ())


class AboutTest(KnowledgeTest):
    def test_example(self):
        self.assertEqual(Knowledge(2, [((1, 1), 3), ((0, 1), 2)]).about((0,)), ((1,),))

    def test_projection_and_grains(self):
        for chance, size, observations in samples(11, 5):
            made = Knowledge(size, observations)
            cells = tuple(sorted(chance.sample(range(size), chance.randint(1, size))))
            basis = made.about(cells)
            self.assertEqual(basis, project(made.basis(), cells))
            self.assertEqual(made.about(cells=list(cells)), basis)
            self.assertEqual(made.about(tuple(range(size))), made.basis())
            form = [0] * size
            for cell in cells:
                form[cell] = chance.randint(-5, 5)
            short = tuple(form[cell] for cell in cells)
            wanted = 0
            for row in basis:
                wanted = gcd(wanted, value(short, row))
            self.assertEqual(made.grain(form), wanted)

    def test_nothing_is_free(self):
        made = Knowledge(2, [((1, 0), 0), ((0, 1), 6)])
        self.assertEqual(made.about((0,)), ())
        self.assertEqual(made.about((1,)), ((6,),))

    def test_bad_cells(self):
        made = Knowledge(3)
        wrong = [
            (), [], None, 0, 1, True, "0", "", (3,), (-1,), (0, 3), (1, 0), (0, 0), (0, 1, 1), (2, 1),
            (True,), (False,), (0, True), (0, None), ("0",), ((0,),), [[0]], [0, [1]], (0, "1"), [2, 1],
            (0, 1, 2, 3), [0, 0], (10 ** 30,), (None,),
        ]
        for cells in wrong:
            self.fails(BadCells, "found", frozen(cells), made.about, cells)
            self.fails(BadCells, "found", frozen(cells), made.about, cells=cells)


if __name__ == "__main__":
    unittest.main()
