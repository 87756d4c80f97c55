import copy
import random
import unittest
from itertools import permutations, product
from math import gcd

from hushgrain.errors import BadSize, HushError, NoForgetting
from hushgrain.knowledge import Knowledge
from hushgrain.lattice import contains, hermite, includes, meet_of, preimage_of, restrict, whole
from hushgrain.reshape import (
    carried_witness, drop_matrix, forgotten, is_forgetting, join_matrix, matrix_product, observations_for, order_matrix,
    pulled, refined, split_matrix, surviving, unit_matrix,
)
from hushgrain.witnesses import is_known_witness, known_witness
from support import (
    ODD_THINGS, box, combination, divides, listed, random_basis, random_vector, units, value,
)


def mapped(vector, matrix):
    """What the matrix makes of the vector."""
    return tuple(sum(entry * row[k] for entry, row in zip(vector, matrix)) for k in range(len(matrix[0])))


def random_matrix(chance, rows, size, reach=3):
    return tuple(random_vector(chance, size, reach) for _ in range(rows))


def random_knowledge(chance, size):
    observations = [
        (random_vector(chance, size, 3), chance.choice((0, 1, 2, 3, 4, 6, 12, 1000000)))
        for _ in range(chance.randint(0, 4))
    ]
    return Knowledge(size, observations)


def random_forgetting(chance, size, left):
    """A matrix of rows that generate all vectors: units, mixed and with more rows among them."""
    rows = [list(row) for row in units(left)]
    for _ in range(3 * left if left > 1 else 0):
        one, other = chance.sample(range(left), 2)
        factor = chance.choice((-2, -1, 1, 2))
        rows[one] = [x + factor * y for x, y in zip(rows[one], rows[other])]
    rows += [list(random_vector(chance, left, 3)) for _ in range(size - left)]
    chance.shuffle(rows)
    return tuple(map(tuple, rows))


class ReshapeTest(unittest.TestCase):
    def fails(self, error, fields, call, *arguments):
        with self.assertRaises(HushError) as caught:
            call(*arguments)
        self.assertIs(caught.exception.__class__, error)
        self.assertEqual(vars(caught.exception), fields)


class PulledTest(ReshapeTest):
    def test_the_same_values(self):
        chance = random.Random(1)
        for _ in range(200):
            old, new = chance.randint(1, 5), chance.randint(1, 5)
            matrix, form = random_matrix(chance, new, old), random_vector(chance, old, 9)
            found = pulled(form, matrix)
            self.assertIsInstance(found, tuple)
            self.assertEqual(len(found), new)
            for _ in range(10):
                world = random_vector(chance, new, 10 ** 9)
                self.assertEqual(value(found, world), value(form, mapped(world, matrix)))
            self.assertEqual(pulled(listed(form), listed(matrix)), found)

    def test_refined(self):
        chance = random.Random(2)
        for _ in range(150):
            old, new = chance.randint(1, 5), chance.randint(1, 4)
            known, matrix = random_knowledge(chance, old), random_matrix(chance, new, old)
            found = refined(known, matrix)
            self.assertIsInstance(found, Knowledge)
            self.assertEqual(found.size(), new)
            wanted = tuple((pulled(form, matrix), modulus) for form, modulus in known.observations())
            self.assertEqual(found.observations(), wanted)
            self.assertEqual(found.basis(), preimage_of(known.basis(), matrix))
            for vector in box(new, 2):
                self.assertIs(contains(found.basis(), vector), contains(known.basis(), mapped(vector, matrix)))
            self.assertTrue(refined(known, listed(matrix)) == found)

    def test_bad_size(self):
        known = Knowledge(2, [((1, 1), 3)])
        self.assertEqual(refined(known, ((1, 0),) * 12).size(), 12)
        for size in (13, 14, 40):
            self.fails(BadSize, {"found": size}, refined, known, ((1, 0),) * size)
            self.fails(BadSize, {"found": size}, refined, known, [[1, 0]] * size)
        self.fails(BadSize, {"found": 13}, refined, Knowledge(12), split_matrix(12, 3, 2))

    def test_carried_witnesses(self):
        chance = random.Random(3)
        for _ in range(150):
            old, new = chance.randint(1, 5), chance.randint(1, 5)
            known, matrix = random_knowledge(chance, old), random_matrix(chance, new, old)
            form = random_vector(chance, old, 5)
            witness = known_witness(known, form)
            carried = carried_witness(witness, matrix)
            self.assertEqual(carried, (pulled(witness[0], matrix), witness[1]))
            grain = known.grain(form)
            self.assertIs(is_known_witness(refined(known, matrix), pulled(form, matrix), grain, carried), True)
            self.assertEqual(carried_witness(listed(witness), listed(matrix)), carried)


class MatricesTest(ReshapeTest):
    def test_examples(self):
        self.assertEqual(split_matrix(2, 0, 2), ((1, 0), (1, 0), (0, 1)))
        self.assertEqual(order_matrix((1, 0)), ((0, 1), (1, 0)))
        self.assertEqual(drop_matrix(2, 0), ((0,), (1,)))

    def test_split(self):
        chance = random.Random(4)
        for size in range(1, 7):
            for cell in range(size):
                for parts in (2, 3, 4):
                    matrix = split_matrix(size, cell, parts)
                    self.assertEqual(matrix, tuple(map(tuple, matrix)))
                    world = random_vector(chance, size + parts - 1, 99)
                    wanted = world[:cell] + (sum(world[cell:cell + parts]),) + world[cell + parts:]
                    self.assertEqual((len(matrix), mapped(world, matrix)), (size + parts - 1, wanted))
        self.assertEqual(split_matrix(3, 1, 3), ((1, 0, 0), (0, 1, 0), (0, 1, 0), (0, 1, 0), (0, 0, 1)))

    def test_unit(self):
        chance = random.Random(5)
        for size in range(1, 7):
            for cell in range(size):
                for factor in (2, 7, 1000):
                    matrix = unit_matrix(size, cell, factor)
                    world = random_vector(chance, size, 99)
                    wanted = world[:cell] + (factor * world[cell],) + world[cell + 1:]
                    self.assertEqual((len(matrix), mapped(world, matrix)), (size, wanted))
        # The residue modulo the factor is treated as known.
        known = Knowledge(2, [((1, 1), 12)])
        self.assertEqual(refined(known, unit_matrix(2, 0, 12)).grain((0, 1)), 12)
        self.assertEqual(unit_matrix(2, 1, 7), ((1, 0), (0, 7)))

    def test_order(self):
        chance = random.Random(6)
        for size in range(1, 5):
            for places in permutations(range(size)):
                matrix = order_matrix(places)
                world = random_vector(chance, size, 99)
                old = mapped(world, matrix)
                self.assertEqual(tuple(old[place] for place in places), world)
                self.assertEqual(order_matrix(list(places)), matrix)
        self.assertEqual(order_matrix((1, 2, 0)), ((0, 1, 0), (0, 0, 1), (1, 0, 0)))

    def test_join(self):
        chance = random.Random(7)
        for size in range(2, 7):
            for cells in [tuple(sorted(chance.sample(range(size), chance.randint(2, size)))) for _ in range(9)]:
                matrix = join_matrix(size, cells)
                world = random_vector(chance, size, 99)
                total = sum(world[cell] for cell in cells)
                wanted = tuple(
                    total if cell == cells[0] else world[cell]
                    for cell in range(size) if cell not in cells[1:]
                )
                self.assertEqual((len(matrix), mapped(world, matrix)), (size, wanted))
                self.assertEqual(join_matrix(size, list(cells)), matrix)
                self.assertIs(is_forgetting(matrix, size + 1 - len(cells)), True)
        self.assertEqual(join_matrix(4, (1, 3)), ((1, 0, 0), (0, 1, 0), (0, 0, 1), (0, 1, 0)))
        self.assertEqual(join_matrix(2, (0, 1)), ((1,), (1,)))

    def test_drop(self):
        chance = random.Random(8)
        for size in range(2, 7):
            for cell in range(size):
                matrix = drop_matrix(size, cell)
                world = random_vector(chance, size, 99)
                self.assertEqual(mapped(world, matrix), world[:cell] + world[cell + 1:])
                self.assertEqual(len(matrix), size)
                self.assertIs(is_forgetting(matrix, size - 1), True)

    def test_products(self):
        chance = random.Random(9)
        for _ in range(100):
            one, two, three = (chance.randint(1, 5) for _ in range(3))
            first, second = random_matrix(chance, one, two, 9), random_matrix(chance, two, three, 9)
            found = matrix_product(first, second)
            self.assertEqual(found, tuple(map(tuple, found)))
            self.assertEqual((len(found), len(found[0])), (one, three))
            world = random_vector(chance, one, 99)
            self.assertEqual(mapped(world, found), mapped(mapped(world, first), second))
            form = random_vector(chance, three, 9)
            self.assertEqual(pulled(form, found), pulled(pulled(form, second), first))
            self.assertEqual(matrix_product(listed(first), listed(second)), found)


class ForgettingTest(ReshapeTest):
    def test_is_forgetting(self):
        chance = random.Random(11)
        for size in range(1, 5):
            for left in range(1, size + 1):
                for _ in range(6):
                    matrix = random_forgetting(chance, size, left)
                    self.assertIs(is_forgetting(matrix, left), True)
                    self.assertIs(is_forgetting(listed(matrix), left), True)
        for matrix, size in (
            (((2,),), 1), (((2,), (4,)), 1), (((0,),), 1), (((1, 0),), 2), (((1, 0), (0, 2)), 2), (((1, 1), (1, -1)), 2),
            (((2, 1), (4, 2)), 2), (((1, 0), (2, 0), (3, 0)), 2), ((), 1), (((1, 0, 0), (0, 1, 0)), 3), (((6,), (10,)), 1),
        ):
            self.assertIs(is_forgetting(matrix, size), False, matrix)
        for matrix, size in (
            (((2,), (3,)), 1), (((-1,),), 1), (((2, 1), (1, 1)), 2), (((6,), (10,), (15,)), 1), (((1, 5), (0, -1)), 2),
        ):
            self.assertIs(is_forgetting(matrix, size), True, matrix)

    def test_other_sizes_and_any_object(self):
        for size in (1, 2, 3):
            for thing in ODD_THINGS + (((1,), (1, 0)), ((True,),), ((1, 0), (0, True)), (("1",),), ((1, 0), None)):
                if thing != ((1, 2), [3]):
                    self.assertIs(is_forgetting(thing, size), False, thing)
                    self.fails(NoForgetting, {}, forgotten, (), thing, size)
                    self.fails(NoForgetting, {}, surviving, (1, 2), thing, size)
        self.assertIs(is_forgetting(((1,), (0,)), 2), False)
        self.assertIs(is_forgetting(((1, 0), (0, 1)), 1), False)

    def test_forgotten(self):
        chance = random.Random(12)
        for _ in range(150):
            size = chance.randint(1, 5)
            left = chance.randint(1, size)
            matrix = random_forgetting(chance, size, left)
            basis = random_basis(chance, size, chance.randint(0, size), 6)
            found = forgotten(basis, matrix, left)
            self.assertEqual(forgotten(listed(basis), listed(matrix), left), found)
            for factors in product((-1, 0, 1), repeat=len(basis)):
                self.assertTrue(contains(found, mapped(combination(factors, basis, size), matrix)))
            self.assertEqual(found, hermite([mapped(row, matrix) for row in basis], left))
            # A form that survives has the same grain as before.
            form = random_vector(chance, left, 5)
            back = pulled(form, matrix)
            self.assertEqual(gcd(*[value(form, row) for row in found]), gcd(*[value(back, row) for row in basis]))

    def test_surviving(self):
        chance = random.Random(13)
        kept = 0
        for _ in range(300):
            size = chance.randint(1, 4)
            left = chance.randint(1, size)
            matrix = random_forgetting(chance, size, left)
            form = random_vector(chance, left, 10 ** chance.randint(0, 20))
            self.assertEqual(surviving(pulled(form, matrix), matrix, left), form)
            self.assertEqual(surviving(listed(pulled(form, matrix)), listed(matrix), left), form)
            other = random_vector(chance, size, 2)
            found = surviving(other, matrix, left)
            if found is None:
                self.assertFalse(any(pulled(thing, matrix) == other for thing in box(left, 4)))
            else:
                kept += 1
                self.assertEqual(pulled(found, matrix), other)
        self.assertGreater(kept, 30)

    def test_surviving_cases(self):
        self.assertEqual(surviving((0, 5), drop_matrix(2, 0), 1), (5,))
        self.assertIsNone(surviving((1, 5), drop_matrix(2, 0), 1))
        self.assertEqual(surviving((3, 4, 3), join_matrix(3, (0, 2)), 2), (3, 4))
        self.assertIsNone(surviving((3, 4, 2), join_matrix(3, (0, 2)), 2))
        self.assertEqual(surviving((0, 0), drop_matrix(2, 1), 1), (0,))
        self.assertEqual(surviving((4, 6), ((2,), (3,)), 1), (2,))
        self.assertIsNone(surviving((4, 9), ((2,), (3,)), 1))

    def test_no_forgetting(self):
        for matrix, size in ((((2,), (4,)), 1), (((1, 0), (0, 2)), 2), ([[1, 1], [1, -1]], 2), (((0, 0), (0, 1)), 2)):
            self.fails(NoForgetting, {}, forgotten, ((1, 0), (0, 1)), matrix, size)
            self.fails(NoForgetting, {}, surviving, (1, 2), matrix, size)

    def test_what_a_group_knows_after_a_forgetting(self):
        # One reader knows x + z, another one z; z is dropped.
        one, other = restrict(whole(2), (1, 1), 0), restrict(whole(2), (0, 1), 0)
        together = restrict(one, (0, 1), 0)
        matrix = drop_matrix(2, 1)
        self.assertEqual(forgotten(one, matrix, 1), ((1,),))
        self.assertEqual(forgotten(other, matrix, 1), ((1,),))
        self.assertEqual(forgotten(together, matrix, 1), ())
        chance = random.Random(14)
        for _ in range(60):
            size = chance.randint(1, 4)
            left = chance.randint(1, size)
            matrix = random_forgetting(chance, size, left)
            one, other = random_knowledge(chance, size), random_knowledge(chance, size)
            together = forgotten(one.joined(other).basis(), matrix, left)
            alone = meet_of(forgotten(one.basis(), matrix, left), forgotten(other.basis(), matrix, left), left)
            self.assertTrue(includes(alone, together))


class ObservationsTest(ReshapeTest):
    def check(self, basis, size):
        found = observations_for(basis, size)
        self.assertIsInstance(found, tuple)
        for form, modulus in found:
            self.assertIsInstance(form, tuple)
            self.assertTrue(0 <= modulus <= 1000000)
        self.assertEqual(Knowledge(size, found).basis(), basis)
        self.assertEqual(observations_for(listed(basis), size), found)

    def test_any_rank(self):
        chance = random.Random(21)
        for turn in range(300):
            size = 1 + turn % 6
            basis = random_basis(chance, size, chance.randint(0, size), chance.choice((1, 3, 6)))
            self.check(basis, size)

    def test_zero_and_whole(self):
        for size in range(1, 13):
            self.check((), size)
            self.check(whole(size), size)

    def test_against_small_vectors(self):
        chance = random.Random(22)
        for _ in range(40):
            size = chance.randint(1, 3)
            basis = random_basis(chance, size, chance.randint(0, size), 5)
            found = observations_for(basis, size)
            for vector in box(size, 4):
                inside = all(divides(modulus, value(form, vector)) for form, modulus in found)
                self.assertIs(inside, contains(basis, vector))

    def test_large_moduli(self):
        for factor in (2, 997, 999983, 1000000):
            for size in (1, 3, 12):
                scaled = tuple(tuple(factor * entry for entry in row) for row in whole(size))
                self.check(scaled, size)
            self.check(((factor, 0, 0), (0, 1, 0)), 3)
            # Saturated, although its pivot is large.
            self.check(((factor, factor + 1),), 2)
        self.check(((997, 1), (0, 997)), 2)
        self.check(((500000, 0), (0, 1000000)), 2)
        big = 10 ** 150
        self.check(((big, big + 1),), 2)
        self.check(((7 * big, 7 * big + 7),), 2)
        self.check(((1000000 * big, 1000000 * big + 1000000, 0), (0, 0, 8)), 3)

    def test_twelve_cells(self):
        chance = random.Random(23)
        for rank in range(13):
            observations = [(random_vector(chance, 12, 2), 0) for _ in range(12 - rank)]
            observations += [(random_vector(chance, 12, 5), modulus) for modulus in (5040, 12, 5040)]
            self.check(Knowledge(12, observations).basis(), 12)


class ArgumentsTest(ReshapeTest):
    def test_keywords_and_arguments_stay(self):
        matrix, form, basis = [[1, 0], [1, 0], [0, 1]], [2, 3], [[2, 0], [0, 1]]
        before = copy.deepcopy((matrix, form, basis))
        known = Knowledge(2, [((1, 1), 6)])
        for _ in range(2):
            self.assertEqual(pulled(matrix=matrix, form=form), (2, 2, 3))
            self.assertEqual(refined(matrix=matrix, knowledge=known).observations(), (((1, 1, 1), 6),))
            self.assertEqual(carried_witness(matrix=matrix, witness=[[1, 2], [[1, 3]]]), ((1, 1, 2), ((1, 3),)))
            self.assertEqual(split_matrix(parts=2, cell=0, size=2), tuple(map(tuple, matrix)))
            self.assertEqual(unit_matrix(factor=3, cell=0, size=1), ((3,),))
            self.assertEqual(order_matrix(places=[0]), ((1,),))
            self.assertEqual(matrix_product(second=basis, first=matrix), ((2, 0), (2, 0), (0, 1)))
            self.assertIs(is_forgetting(size=2, matrix=matrix), True)
            self.assertEqual(forgotten(size=2, matrix=matrix, basis=[[1, 0, 0], [0, 2, 0]]), ((1, 0),))
            self.assertEqual(surviving(size=2, matrix=matrix, form=[4, 4, 5]), (4, 5))
            self.assertEqual(join_matrix(cells=[0, 1], size=2), ((1,), (1,)))
            self.assertEqual(drop_matrix(cell=1, size=2), ((1,), (0,)))
            self.assertEqual(Knowledge(2, observations_for(size=2, basis=basis)).basis(), ((2, 0), (0, 1)))
        self.assertEqual((matrix, form, basis), before)


if __name__ == "__main__":
    unittest.main()
