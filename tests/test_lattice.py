import copy
import random
import unittest
from math import gcd

from hushgrain.errors import HushError, NotInside
from hushgrain.lattice import (
    class_count, contains, coordinates, grain_of, hermite, image_of, includes, is_basis, join_of,
    meet_of, preimage_of, project, restrict, saturation, solve, vanishing, whole,
)
from support import box, combination, combinations_of, divides, listed, random_basis, random_vector, value

SMALL = [(1, 1), (2, 0), (2, 1), (2, 2), (3, 1), (3, 2), (3, 3), (4, 3)]


def lattices(seed, times, reach=4):
    """Small lattices of small sizes and all ranks, the empty basis among them."""
    chance = random.Random(seed)
    for size, rank in SMALL * times:
        yield chance, size, random_basis(chance, size, rank, reach)


def mapped(vector, matrix, size):
    return combination(vector, matrix, size)


class MembersTest(unittest.TestCase):
    def test_examples(self):
        self.assertEqual(coordinates(((2, 1), (0, 3)), (2, 7)), (1, 2))
        self.assertIs(contains(((2, 1), (0, 3)), (1, 0)), False)

    def test_by_search(self):
        for _, size, basis in lattices(1, 12):
            members = combinations_of(basis, size, 6)
            for vector in box(size, 3):
                found = coordinates(basis, vector)
                self.assertIs(contains(basis, vector), found is not None)
                if found is None:
                    self.assertNotIn(vector, members)
                else:
                    self.assertIsInstance(found, tuple)
                    self.assertEqual(len(found), len(basis))
                    self.assertEqual(combination(found, basis, size), vector)

    def test_members_and_vectors_beside_them(self):
        chance = random.Random(2)
        for size in range(1, 13):
            for rank in range(size + 1):
                basis = random_basis(chance, size, rank, 9)
                factors = tuple(chance.randint(-10 ** 20, 10 ** 20) for _ in range(rank))
                vector = combination(factors, basis, size)
                self.assertEqual(coordinates(basis, vector), factors)
                self.assertEqual(coordinates(listed(basis), list(vector)), factors)
                self.assertIs(contains(basis, vector), True)
                if basis and basis[0][0] > 1:
                    beside = (vector[0] + 1,) + vector[1:]
                    self.assertIsNone(coordinates(basis, beside))
                    self.assertIs(contains(basis, beside), False)

    def test_behind_the_last_pivot(self):
        basis = ((2, 1, 5),)
        self.assertEqual(coordinates(basis, (4, 2, 10)), (2,))
        for vector in ((4, 2, 9), (4, 3, 10), (0, 0, 1), (0, 1, 0), (3, 2, 10)):
            self.assertIsNone(coordinates(basis, vector))
            self.assertIs(contains(basis, vector), False)

    def test_zero_vector_and_empty_basis(self):
        for size in range(1, 13):
            zero = (0,) * size
            self.assertEqual(coordinates((), zero), ())
            self.assertEqual(coordinates(whole(size), zero), zero)
            self.assertIs(contains((), zero), True)
            for k in range(size):
                unit = zero[:k] + (1,) + zero[k + 1:]
                self.assertIsNone(coordinates((), unit))
                self.assertIs(contains((), unit), False)
                self.assertEqual(coordinates(whole(size), unit), unit)

    def test_includes(self):
        for chance, size, basis in lattices(3, 12):
            other = random_basis(chance, size, chance.randint(0, size), 3)
            wanted = all(contains(basis, row) for row in other)
            self.assertIs(includes(basis, other), wanted)
            self.assertIs(includes(basis, ()), True)
            self.assertIs(includes(basis, basis), True)
            self.assertIs(includes(whole(size), basis), True)
            self.assertIs(includes((), basis), basis == ())
            doubled = hermite([[2 * x for x in row] for row in basis], size)
            self.assertIs(includes(basis, doubled), True)
            self.assertIs(includes(doubled, basis), basis == ())
        self.assertIs(includes(((2, 0), (0, 1)), ((2, 0), (0, 3))), True)
        self.assertIs(includes(((2, 0), (0, 3)), ((2, 0), (0, 1))), False)

    def test_keywords_and_arguments_stay(self):
        basis, vector = [[2, 1], [0, 3]], [2, 7]
        self.assertEqual(coordinates(vector=vector, basis=basis), (1, 2))
        self.assertIs(contains(vector=vector, basis=basis), True)
        self.assertIs(includes(other=[[2, 7]], basis=basis), True)
        self.assertEqual((basis, vector), ([[2, 1], [0, 3]], [2, 7]))


class JoinAndMeetTest(unittest.TestCase):
    def test_examples(self):
        one, other = ((2, 0), (0, 1)), ((3, 0), (0, 1))
        self.assertEqual(join_of(one, other, 2), ((1, 0), (0, 1)))
        self.assertEqual(meet_of(one, other, 2), ((6, 0), (0, 1)))

    def test_by_search(self):
        for chance, size, one in lattices(4, 15):
            other = random_basis(chance, size, chance.randint(0, size), 4)
            join, meet = join_of(one, other, size), meet_of(one, other, size)
            self.assertTrue(is_basis(join, size))
            self.assertTrue(is_basis(meet, size))
            self.assertEqual(join_of(other, one, size), join)
            self.assertEqual(meet_of(other, one, size), meet)
            for vector in box(size, 4 if size < 3 else 2):
                both = contains(one, vector) and contains(other, vector)
                self.assertIs(contains(meet, vector), both)
            for row in meet:
                self.assertTrue(contains(one, row) and contains(other, row))
            for row in one + other:
                self.assertTrue(contains(join, row))
            self.assertEqual(join, hermite(one[::-1] + other, size))
            # Classes of the one modulo the meet are those of the join modulo the other.
            self.assertEqual(class_count(one, meet), class_count(join, other))

    def test_every_size(self):
        chance = random.Random(5)
        for size in range(1, 13):
            for rank in (0, 1, size // 2, size):
                one = random_basis(chance, size, rank, 6)
                other = random_basis(chance, size, chance.randint(0, size), 6)
                join, meet = join_of(one, other, size), meet_of(one, other, size)
                self.assertEqual(len(one) + len(other), len(join) + len(meet))
                self.assertEqual(class_count(one, meet), class_count(join, other))
                self.assertEqual(join, hermite(one + other, size))
                self.assertEqual(join_of(one, one, size), one)
                self.assertEqual(meet_of(one, one, size), one)
                self.assertEqual(meet_of(one, whole(size), size), one)
                self.assertEqual(join_of(one, whole(size), size), whole(size))
                self.assertEqual(join_of(one, (), size), one)
                self.assertEqual(join_of((), one, size), one)
                self.assertEqual(meet_of(one, (), size), ())
                self.assertEqual(meet_of((), one, size), ())

    def test_less_than_full_rank(self):
        self.assertEqual(meet_of(((1, 1),), ((1, -1),), 2), ())
        self.assertEqual(join_of(((1, 1),), ((1, -1),), 2), ((1, 1), (0, 2)))
        self.assertEqual(meet_of(((2, 2),), ((3, 3),), 2), ((6, 6),))
        self.assertEqual(join_of(((2, 2),), ((3, 3),), 2), ((1, 1),))
        self.assertEqual(meet_of(((1, 0, 0), (0, 1, 0)), ((0, 1, 0), (0, 0, 1)), 3), ((0, 1, 0),))

    def test_many_digits(self):
        chance = random.Random(6)
        one = random_basis(chance, 12, 8, 10 ** 299)
        other = random_basis(chance, 12, 10, 10 ** 299)
        join, meet = join_of(one, other, 12), meet_of(one, other, 12)
        self.assertEqual(class_count(one, meet), class_count(join, other))
        self.assertEqual(meet_of(other, one, 12), meet)

    def test_keywords_and_arguments_stay(self):
        one, other = [[2, 0], [0, 1]], [[3, 0], [0, 1]]
        self.assertEqual(join_of(size=2, other=other, one=one), ((1, 0), (0, 1)))
        self.assertEqual(meet_of(size=2, other=other, one=one), ((6, 0), (0, 1)))
        self.assertEqual((one, other), ([[2, 0], [0, 1]], [[3, 0], [0, 1]]))


class ValuesTest(unittest.TestCase):
    def test_examples(self):
        basis = ((2, 1), (0, 3))
        self.assertEqual(grain_of(basis, (1, 1)), 3)
        found = solve(basis, (1, 1), 6)
        self.assertTrue(contains(basis, found))
        self.assertEqual(value((1, 1), found), 6)
        self.assertIsNone(solve(basis, (1, 1), 4))

    def test_grain_is_the_divisor_of_the_values_at_the_rows(self):
        chance = random.Random(7)
        for size in range(1, 13):
            for rank in range(size + 1):
                basis = random_basis(chance, size, rank, 50)
                form = random_vector(chance, size, 30)
                wanted = 0
                for row in basis:
                    wanted = gcd(wanted, value(form, row))
                self.assertEqual(grain_of(basis, form), wanted)
                self.assertEqual(grain_of(listed(basis), list(form)), wanted)
                self.assertEqual(grain_of(basis, (0,) * size), 0)
                self.assertEqual(grain_of((), form), 0)
                self.assertEqual(grain_of(whole(size), form), gcd(*form))

    def test_forms_that_vanish(self):
        self.assertEqual(grain_of(((1, -1),), (2, 2)), 0)
        self.assertEqual(grain_of(((1, -1),), (1, 0)), 1)
        self.assertEqual(grain_of(((1, -1),), (1, -1)), 2)
        self.assertEqual(grain_of(((1, 1, 1), (0, 2, 1)), (1, 1, -2)), 0)

    def test_solve_by_definition(self):
        for chance, size, basis in lattices(8, 20):
            form = random_vector(chance, size, 5)
            grain = grain_of(basis, form)
            for amount in range(-12, 13):
                found = solve(basis, form, amount)
                if divides(grain, amount):
                    self.assertIsInstance(found, tuple)
                    self.assertEqual(len(found), size)
                    self.assertTrue(contains(basis, found))
                    self.assertEqual(value(form, found), amount)
                    self.assertEqual(solve(listed(basis), list(form), amount), found)
                else:
                    self.assertIsNone(found)

    def test_solve_of_every_size(self):
        chance = random.Random(9)
        for size in range(1, 13):
            for rank in range(size + 1):
                basis = random_basis(chance, size, rank, 10 ** 30)
                form = random_vector(chance, size, 10 ** 4)
                grain = grain_of(basis, form)
                for amount in (0, grain, -7 * grain, 10 ** 40 * grain):
                    found = solve(basis, form, amount)
                    self.assertTrue(contains(basis, found))
                    self.assertEqual(value(form, found), amount)
                if grain != 1:
                    self.assertIsNone(solve(basis, form, grain + 1))

    def test_solve_without_values(self):
        self.assertEqual(solve((), (1, 2), 0), (0, 0))
        self.assertIsNone(solve((), (1, 2), 1))
        self.assertIsNone(solve(((1, -1),), (1, 1), 2))
        self.assertIsNone(solve(whole(2), (0, 0), 1))
        self.assertEqual(value((1, 1), solve(((1, -1),), (1, 1), 0)), 0)

    def test_keywords_and_arguments_stay(self):
        basis, form = [[2, 1], [0, 3]], [1, 1]
        self.assertEqual(grain_of(form=form, basis=basis), 3)
        first = solve(value=6, form=form, basis=basis)
        self.assertEqual(solve(basis, form, 6), first)
        self.assertEqual((basis, form), ([[2, 1], [0, 3]], [1, 1]))


class RestrictTest(unittest.TestCase):
    def test_examples(self):
        self.assertEqual(restrict(whole(2), (1, 1), 3), ((1, 2), (0, 3)))
        self.assertEqual(restrict(whole(2), (1, -1), 0), ((1, 1),))

    def test_by_search(self):
        for chance, size, basis in lattices(10, 15):
            form = random_vector(chance, size, 4)
            for modulus in (0, 1, 2, 3, 4, 6, 12):
                found = restrict(basis, form, modulus)
                self.assertTrue(is_basis(found, size))
                self.assertEqual(restrict(listed(basis), list(form), modulus), found)
                for row in found:
                    self.assertTrue(contains(basis, row) and divides(modulus, value(form, row)))
                for vector in box(size, 3 if size < 3 else 2):
                    wanted = contains(basis, vector) and divides(modulus, value(form, vector))
                    self.assertIs(contains(found, vector), wanted)

    def test_number_of_classes(self):
        chance = random.Random(11)
        for size in range(1, 13):
            for rank in range(size + 1):
                basis = random_basis(chance, size, rank, 9)
                form = random_vector(chance, size, 99)
                grain = grain_of(basis, form)
                for modulus in (1, 2, 60, 5040, 999983, 10 ** 6, 10 ** 6 + 3, 10 ** 40):
                    found = restrict(basis, form, modulus)
                    self.assertEqual(class_count(basis, found), modulus // gcd(modulus, grain))
                    self.assertTrue(divides(modulus, grain_of(found, form)))
                self.assertEqual(restrict(basis, form, 1), basis)
                exact = restrict(basis, form, 0)
                self.assertEqual(len(exact), rank - (grain != 0))
                self.assertEqual(grain_of(exact, form), 0)
                self.assertEqual(meet_of(saturation(exact, size), basis, size), exact)

    def test_zero_form_and_empty_basis(self):
        for modulus in (0, 1, 2, 10 ** 7):
            self.assertEqual(restrict(((2, 1), (0, 3)), (0, 0), modulus), ((2, 1), (0, 3)))
            self.assertEqual(restrict((), (1, 1), modulus), ())

    def test_order_does_not_count(self):
        chance = random.Random(12)
        for size in range(1, 13):
            steps = [
                (random_vector(chance, size, 20), chance.choice((0, 1, 2, 12, 5040, 1000003)))
                for _ in range(6)
            ]
            results = set()
            for _ in range(5):
                found = whole(size)
                for form, modulus in steps:
                    found = restrict(found, form, modulus)
                results.add(found)
                chance.shuffle(steps)
            self.assertEqual(len(results), 1)

    def test_keywords_and_arguments_stay(self):
        basis, form = [[1, 0], [0, 1]], [1, 1]
        self.assertEqual(restrict(modulus=3, form=form, basis=basis), ((1, 2), (0, 3)))
        self.assertEqual((basis, form), ([[1, 0], [0, 1]], [1, 1]))


class MatrixTest(unittest.TestCase):
    def test_examples(self):
        self.assertEqual(image_of(((2, 0), (0, 1)), ((1, 1), (0, 1)), 2), ((2, 0), (0, 1)))
        self.assertEqual(preimage_of(((2,),), ((1,), (1,))), ((1, 1), (0, 2)))
        self.assertEqual(project(((1, 2), (0, 3)), (1,)), ((1,),))

    def test_image_by_search(self):
        for chance, size, basis in lattices(13, 12):
            for new in (1, 2, 3):
                matrix = tuple(random_vector(chance, new, 3) for _ in range(size))
                found = image_of(basis, matrix, new)
                self.assertTrue(is_basis(found, new))
                self.assertEqual(image_of(listed(basis), listed(matrix), new), found)
                images = [mapped(row, matrix, new) for row in basis]
                self.assertEqual(found, hermite(images, new))
                for vector in combinations_of(basis, size, 2):
                    self.assertTrue(contains(found, mapped(vector, matrix, new)))

    def test_preimage_by_search(self):
        for chance, new, basis in lattices(14, 12):
            for size in (1, 2, 3):
                matrix = tuple(random_vector(chance, new, 3) for _ in range(size))
                found = preimage_of(basis, matrix)
                self.assertTrue(is_basis(found, size))
                self.assertEqual(preimage_of(listed(basis), listed(matrix)), found)
                for row in found:
                    self.assertTrue(contains(basis, mapped(row, matrix, new)))
                for vector in box(size, 4 if size < 3 else 2):
                    wanted = contains(basis, mapped(vector, matrix, new))
                    self.assertIs(contains(found, vector), wanted)

    def test_every_size(self):
        chance = random.Random(15)
        for size in range(1, 13):
            for new in (1, size, 12):
                matrix = tuple(random_vector(chance, new, 5) for _ in range(size))
                basis = random_basis(chance, new, chance.randint(0, new), 5)
                found = preimage_of(basis, matrix)
                reached = image_of(whole(size), matrix, new)
                self.assertEqual(image_of(found, matrix, new), meet_of(reached, basis, new))
                self.assertTrue(includes(found, preimage_of((), matrix)))
                self.assertEqual(preimage_of(whole(new), matrix), whole(size))
                self.assertEqual(image_of((), matrix, new), ())
                zero = ((0,) * new,) * size
                self.assertEqual(image_of(whole(size), zero, new), ())
                self.assertEqual(preimage_of((), zero), whole(size))

    def test_preimage_of_the_empty_basis(self):
        self.assertEqual(preimage_of((), ((1,), (-1,))), ((1, 1),))
        self.assertEqual(preimage_of((), ((1, 0), (0, 1))), ())

    def test_project(self):
        chance = random.Random(16)
        for size in range(1, 13):
            for rank in range(size + 1):
                basis = random_basis(chance, size, rank, 7)
                columns = tuple(sorted(chance.sample(range(size), chance.randint(1, size))))
                found = project(basis, columns)
                wanted = [[row[k] for k in columns] for row in basis]
                self.assertEqual(found, hermite(wanted, len(columns)))
                self.assertEqual(project(listed(basis), list(columns)), found)
                self.assertEqual(project(basis, tuple(range(size))), basis)
                self.assertEqual(project((), columns), ())

    def test_keywords_and_arguments_stay(self):
        basis, matrix, columns = [[2, 0], [0, 1]], [[1, 1], [0, 1]], [1]
        before = copy.deepcopy((basis, matrix, columns))
        self.assertEqual(image_of(size=2, matrix=matrix, basis=basis), ((2, 0), (0, 1)))
        self.assertEqual(preimage_of(matrix=matrix, basis=basis), ((2, 0), (0, 1)))
        self.assertEqual(project(columns=columns, basis=basis), ((1,),))
        self.assertEqual((basis, matrix, columns), before)


class SaturationTest(unittest.TestCase):
    def test_examples(self):
        self.assertEqual(saturation(((2, 2),), 2), ((1, 1),))
        self.assertEqual(class_count(whole(2), ((2, 1), (0, 3))), 6)

    def test_by_search(self):
        for _, size, basis in lattices(17, 15):
            found = saturation(basis, size)
            self.assertTrue(is_basis(found, size))
            self.assertEqual(saturation(listed(basis), size), found)
            times = max(1, class_count(found, basis))
            for vector in box(size, 3 if size < 3 else 2):
                multiples = [tuple(k * x for x in vector) for k in range(1, times + 1)]
                wanted = any(contains(basis, multiple) for multiple in multiples)
                self.assertIs(contains(found, vector), wanted)

    def test_every_size(self):
        chance = random.Random(18)
        for size in range(1, 13):
            self.assertEqual(saturation((), size), ())
            for rank in range(size + 1):
                basis = random_basis(chance, size, rank, 9)
                found = saturation(basis, size)
                self.assertTrue(includes(found, basis))
                self.assertGreater(class_count(found, basis), 0)
                self.assertEqual(saturation(found, size), found)
                tripled = hermite([[3 * x for x in row] for row in basis], size)
                self.assertEqual(saturation(tripled, size), found)
                self.assertEqual(found == whole(size), rank == size)

    def test_vanishing_forms(self):
        self.assertEqual(vanishing(((2, 2, 0),), 3), ((1, -1, 0), (0, 0, 1)))
        self.assertEqual(vanishing((), 2), whole(2))
        self.assertEqual(vanishing(whole(3), 3), ())

    def test_many_digits(self):
        chance = random.Random(19)
        basis = random_basis(chance, 12, 6, 10 ** 299)
        found = saturation(basis, 12)
        self.assertTrue(includes(found, basis))
        self.assertGreater(class_count(found, basis), 0)

    def test_class_count_by_search(self):
        chance = random.Random(20)
        for size, rank in SMALL * 12:
            basis = random_basis(chance, size, rank, 3)
            factors = [[chance.randint(-2, 2) for _ in range(rank)] for _ in range(rank)]
            other = hermite([combination(row, basis, size) for row in factors], size)
            found = class_count(basis, other)
            self.assertEqual(class_count(listed(basis), listed(other)), found)
            if len(other) < rank:
                self.assertEqual(found, 0)
            else:
                self.assertEqual(found, self.classes(basis, other, size))

    def classes(self, basis, other, size):
        """Count the classes by steps from class to class."""
        seen = [(0,) * size]
        for vector in seen:
            for row in basis:
                beside = tuple(x + y for x, y in zip(vector, row))
                if not any(contains(other, [x - y for x, y in zip(beside, one)]) for one in seen):
                    seen.append(beside)
        return len(seen)

    def test_class_count_of_equal_lattices_and_infinitely_many(self):
        self.assertEqual(class_count((), ()), 1)
        self.assertEqual(class_count(((2, 1),), ((2, 1),)), 1)
        self.assertEqual(class_count(((2, 1),), ()), 0)
        self.assertEqual(class_count(whole(2), ((1, 0),)), 0)
        self.assertEqual(class_count(((0, 2),), ((0, 10),)), 5)

    def test_not_inside(self):
        pairs = [
            (((2, 0), (0, 1)), ((1, 0), (0, 1))),
            ((), ((1, 0),)),
            (((1, 0),), ((0, 1),)),
            (((2, 0),), ((3, 0),)),
            (((1, 1),), ((1, 0), (0, 1))),
            (((1, 0), (0, 6)), ((0, 4),)),
        ]
        for basis, other in pairs:
            for arguments in ((basis, other), (listed(basis), listed(other))):
                with self.assertRaises(NotInside) as caught:
                    class_count(*arguments)
                self.assertIsInstance(caught.exception, HushError)

    def test_keywords_and_arguments_stay(self):
        basis, other = [[1, 0], [0, 1]], [[2, 1], [0, 3]]
        self.assertEqual(class_count(other=other, basis=basis), 6)
        self.assertEqual(saturation(size=2, basis=other), whole(2))
        self.assertEqual((basis, other), ([[1, 0], [0, 1]], [[2, 1], [0, 3]]))


if __name__ == "__main__":
    unittest.main()
