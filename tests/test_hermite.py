import copy
import random
import time
import unittest

from hushgrain.lattice import hermite, is_basis, whole
from support import ODD_THINGS, combination, listed, random_basis, random_vector, scrambled, units


def keeps_the_conditions(basis, size):
    """The conditions on a basis, one by one."""
    columns = []
    for row in basis:
        assert isinstance(row, tuple) and len(row) == size and any(row)
        columns.append(next(k for k in range(size) if row[k]))
        assert row[columns[-1]] > 0
    assert columns == sorted(set(columns))
    for i, column in enumerate(columns):
        for j in range(i):
            assert 0 <= basis[j][column] < basis[i][column]
    return True


def span(rows, wide):
    """All vectors of size 2 with entries up to 12 that the rows make."""
    found = {(0, 0)}
    edge = list(found)
    steps = [tuple(sign * x for x in row) for row in rows for sign in (1, -1)]
    while edge:
        x, y = edge.pop()
        for step in steps:
            to = (x + step[0], y + step[1])
            if max(map(abs, to)) <= wide and to not in found:
                found.add(to)
                edge.append(to)
    return {vector for vector in found if max(map(abs, vector)) <= 12}


class HermiteTest(unittest.TestCase):
    def test_examples(self):
        self.assertEqual(hermite(((2, 1), (0, 3), (4, 5)), 2), ((2, 1), (0, 3)))
        self.assertEqual(whole(2), ((1, 0), (0, 1)))

    def test_no_rows_and_zero_vectors(self):
        for size in range(1, 13):
            zero = (0,) * size
            for rows in ((), [], (zero,), [zero, list(zero)], (zero,) * 200):
                self.assertEqual(hermite(rows, size), ())

    def test_whole(self):
        for size in range(1, 13):
            self.assertEqual(whole(size), tuple(units(size)))
            self.assertEqual(whole(size=size), hermite(units(size)[::-1], size))

    def test_one_row(self):
        self.assertEqual(hermite(((0, -4, 6),), 3), ((0, 4, -6),))
        self.assertEqual(hermite(((0, 4, -6), (0, 4, -6)), 3), ((0, 4, -6),))
        self.assertEqual(hermite(((-6,), (4,), (0,)), 1), ((2,),))

    def test_entries_above_a_pivot(self):
        self.assertEqual(hermite(((1, 7), (0, 3)), 2), ((1, 1), (0, 3)))
        self.assertEqual(hermite(((1, -7), (0, 3)), 2), ((1, 2), (0, 3)))
        self.assertEqual(hermite(((1, 9), (0, 3)), 2), ((1, 0), (0, 3)))
        self.assertEqual(hermite(((1, 5, 50), (0, 2, 9), (0, 0, 10)), 3), ((1, 1, 2), (0, 2, 9), (0, 0, 10)))
        # Behind a column without a pivot entries are free, also below 0.
        self.assertEqual(hermite(((2, -50, 7),), 3), ((2, -50, 7),))

    def test_by_search(self):
        chance = random.Random(1)
        for _ in range(150):
            rows = [random_vector(chance, 2, 4) for _ in range(chance.randint(1, 3))]
            basis = hermite(rows, 2)
            self.assertTrue(keeps_the_conditions(basis, 2))
            self.assertEqual(span(basis, 40), span(rows, 40), rows)

    def test_the_one_basis_of_every_size_and_rank(self):
        chance = random.Random(2)
        for size in range(1, 13):
            for rank in range(size + 1):
                for reach in (1, 4, 30, 10 ** 20):
                    basis = random_basis(chance, size, rank, reach)
                    self.assertTrue(keeps_the_conditions(basis, size))
                    for more in (0, 1, 5):
                        rows = scrambled(chance, basis, size, more)
                        for passed in (rows, list(rows), listed(rows), tuple(listed(rows)), rows[::-1]):
                            found = hermite(passed, size)
                            self.assertEqual(found, basis)
                            self.assertIsInstance(found, tuple)
                            self.assertTrue(all(isinstance(row, tuple) for row in found))

    def test_any_rows(self):
        chance = random.Random(3)
        for size in range(1, 13):
            for count in (1, size, 2 * size):
                rows = [random_vector(chance, size, 9) for _ in range(count)]
                basis = hermite(rows, size)
                self.assertTrue(keeps_the_conditions(basis, size))
                again = rows + [combination([3] * count, rows, size), (0,) * size, rows[0]]
                chance.shuffle(again)
                self.assertEqual(hermite(again, size), basis)

    def test_numbers_of_many_digits_in_bounded_time(self):
        chance = random.Random(4)
        begin = time.process_time()
        for digits in (40, 300):
            for size, rank in ((12, 12), (12, 6), (7, 7), (12, 1)):
                basis = random_basis(chance, size, rank, 10 ** (digits - 8))
                rows = scrambled(chance, basis, size, 200 - rank)
                self.assertEqual(len(rows), 200)
                self.assertEqual(hermite(rows, size), basis)
            wide = 10 ** digits - 1
            for count in (12, 13, 200):
                rows = [random_vector(chance, 12, wide) for _ in range(count)]
                basis = hermite(rows, 12)
                self.assertTrue(keeps_the_conditions(basis, 12))
                self.assertEqual(hermite(rows[::-1], 12), basis)
        self.assertLess(time.process_time() - begin, 120)

    def test_a_long_chain_of_finer_lattices(self):
        # Every row in turn leaves a lattice in which the one before has half as many classes.
        rows = [(2 ** (600 - k),) + (0,) * 11 for k in range(100)]
        rows += [(0,) * 11 + (3 ** (400 - k),) for k in range(100)]
        first, last = (2 ** 501,) + (0,) * 11, (0,) * 11 + (3 ** 301,)
        self.assertEqual(hermite(rows, 12), (first, last))

    def test_keywords_arguments_and_the_same_call_twice(self):
        rows = [[2, 1], [0, 3], (4, 5)]
        before = copy.deepcopy(rows)
        first = hermite(size=2, rows=rows)
        self.assertEqual(first, ((2, 1), (0, 3)))
        self.assertEqual(rows, before)
        self.assertEqual(hermite(rows, 2), first)
        rows[0][0] = 99
        self.assertEqual(first, ((2, 1), (0, 3)))


class IsBasisTest(unittest.TestCase):
    def test_example(self):
        self.assertIs(is_basis(((2, 4), (0, 3)), 2), False)

    def test_right_ones(self):
        chance = random.Random(5)
        for size in range(1, 13):
            self.assertIs(is_basis((), size), True)
            self.assertIs(is_basis(whole(size), size), True)
            for rank in range(size + 1):
                self.assertIs(is_basis(random_basis(chance, size, rank, 20), size), True)
        self.assertIs(is_basis(((3, 2, -50, 10 ** 299), (0, 5, 0, 0)), 4), True)

    def test_each_condition_broken(self):
        wrong = [
            ((2, 1), (0, 0)),
            ((0, 0),),
            ((0, 0), (0, 3)),
            ((-2, 1), (0, 3)),
            ((2, 1), (0, -3)),
            ((0, 3), (2, 1)),
            ((2, 1), (3, 1)),
            ((0, 1), (0, 1)),
            ((2, 3), (0, 3)),
            ((2, -1), (0, 3)),
            ((2, 1), (0, 3), (0, 0)),
            ((1, 0), (0, 1), (0, 1)),
        ]
        for thing in wrong:
            self.assertIs(is_basis(thing, 2), False, thing)
        self.assertIs(is_basis(((1, 1, 0), (0, 2, 0), (0, 0, 1)), 3), True)
        self.assertIs(is_basis(((1, 1, 1), (0, 2, 0), (0, 0, 1)), 3), False)
        self.assertIs(is_basis(((1, 2, 0), (0, 2, 0), (0, 0, 1)), 3), False)
        self.assertIs(is_basis(((1, 1, 0), (0, 2, 1), (0, 0, 1)), 3), False)
        self.assertIs(is_basis(((1, 1, 0), (0, 2, -1), (0, 0, 5)), 3), False)

    def test_changed_ones(self):
        chance = random.Random(6)
        for size in range(1, 8):
            basis = random_basis(chance, size, max(1, size - 1), 6)
            self.assertIs(is_basis(basis, size), True)
            self.assertIs(is_basis(list(basis), size), False)
            for k, row in enumerate(basis):
                for other in (list(row), row + (0,), row[:-1], None, 7, "row", (), tuple(map(str, row))):
                    thing = basis[:k] + (other,) + basis[k + 1:]
                    self.assertIs(is_basis(thing, size), False, thing)

    def test_bools(self):
        self.assertIs(is_basis(((True, 0), (0, 1)), 2), False)
        self.assertIs(is_basis(((1, False), (0, 1)), 2), False)
        self.assertIs(is_basis(((1, 0), (0, True)), 2), False)
        self.assertIs(is_basis(((True,),), 1), False)

    def test_another_size(self):
        for size in range(1, 13):
            for other in range(1, 13):
                self.assertIs(is_basis(whole(size), other), size == other)

    def test_any_object(self):
        for thing in ODD_THINGS:
            for size in (1, 2, 12):
                self.assertIs(is_basis(thing, size), thing == () and thing != [], thing)

    def test_keywords_and_argument_stays(self):
        thing = [[1, 0], [0, 1]]
        self.assertIs(is_basis(size=2, thing=thing), False)
        self.assertIs(is_basis(thing=whole(2), size=2), True)
        self.assertEqual(thing, [[1, 0], [0, 1]])


if __name__ == "__main__":
    unittest.main()
