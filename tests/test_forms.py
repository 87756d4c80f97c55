import unittest

from hushgrain.forms import add_forms, dot, is_form, moved, padded, scale_form


def sample(size, seed):
    """Make a vector with zeros and negative entries."""
    return tuple((seed * (k + 3) * 7919 + k * k) % 41 - 20 for k in range(size))


class IsFormTest(unittest.TestCase):
    def test_right_ones(self):
        for size in range(1, 13):
            self.assertIs(is_form((0,) * size, size), True)
            self.assertIs(is_form(sample(size, 5), size), True)
        self.assertIs(is_form((-(10 ** 200), 10 ** 200), 2), True)

    def test_wrong_length(self):
        for size in range(1, 13):
            self.assertIs(is_form((1,) * (size - 1), size), False)
            self.assertIs(is_form((1,) * (size + 1), size), False)

    def test_example(self):
        self.assertIs(is_form((1, True), 2), False)

    def test_wrong_entries(self):
        for entry in (True, False, "1", "", None, [], [1], (), (1,), (1, 2)):
            self.assertIs(is_form((entry,), 1), False, entry)
            for place in range(3):
                thing = [4, 0, -4]
                thing[place] = entry
                self.assertIs(is_form(tuple(thing), 3), False, thing)

    def test_list_in_the_place_of_the_tuple(self):
        self.assertIs(is_form([1, 2], 2), False)
        self.assertIs(is_form([], 1), False)

    def test_other_objects(self):
        for thing in (0, 1, 2, -1, "", "a", "ab", True, False, None, ()):
            for size in (1, 2):
                self.assertIs(is_form(thing, size), False, thing)

    def test_keywords_and_argument_stays(self):
        thing = [1, [2]]
        self.assertIs(is_form(size=2, thing=thing), False)
        self.assertIs(is_form(size=2, thing=(1, 2)), True)
        self.assertEqual(thing, [1, [2]])


class DotTest(unittest.TestCase):
    def test_example(self):
        self.assertEqual(dot((1, 2), (3, -1)), 1)

    def test_every_size(self):
        for size in range(1, 13):
            form, vector = sample(size, 3), sample(size, 8)
            wanted = 0
            for k in range(size):
                wanted += form[k] * vector[k]
            for result in (dot(form, vector), dot(list(form), list(vector)), dot(form, list(vector))):
                self.assertEqual(result, wanted)
            self.assertEqual(dot(form, (0,) * size), 0)
            for k in range(size):
                unit = tuple(int(j == k) for j in range(size))
                self.assertEqual(dot(form, unit), form[k])

    def test_large(self):
        self.assertEqual(dot((10 ** 150, -1), (10 ** 150, 1)), 10 ** 300 - 1)

    def test_keywords_and_arguments_stay(self):
        form, vector = [2, -3], [5, 0]
        self.assertEqual(dot(vector=vector, form=form), 10)
        self.assertEqual((form, vector), ([2, -3], [5, 0]))


class AddTest(unittest.TestCase):
    def test_example(self):
        self.assertEqual(add_forms((1, 0), (2, 3)), (3, 3))

    def test_every_size(self):
        for size in range(1, 13):
            one, other = sample(size, 2), sample(size, 9)
            wanted = tuple(one[k] + other[k] for k in range(size))
            for result in (add_forms(one, other), add_forms(list(one), list(other)),
                           add_forms(one, list(other)), add_forms(list(one), other)):
                self.assertEqual(result, wanted)
            self.assertEqual(add_forms(one, (0,) * size), one)
            self.assertEqual(add_forms(one, tuple(-k for k in one)), (0,) * size)

    def test_keywords_and_arguments_stay(self):
        one, other = [1, -2], [-1, 5]
        self.assertEqual(add_forms(other=other, one=one), (0, 3))
        self.assertEqual((one, other), ([1, -2], [-1, 5]))


class ScaleTest(unittest.TestCase):
    def test_example(self):
        self.assertEqual(scale_form(-2, (1, 3)), (-2, -6))

    def test_every_size(self):
        for size in range(1, 13):
            form = sample(size, 6)
            for factor in (-10 ** 40, -3, -1, 0, 1, 2, 10 ** 40):
                wanted = tuple(factor * form[k] for k in range(size))
                self.assertEqual(scale_form(factor, form), wanted)
                self.assertEqual(scale_form(factor, list(form)), wanted)

    def test_keywords_and_arguments_stay(self):
        form = [4, 0]
        self.assertEqual(scale_form(form=form, factor=-1), (-4, 0))
        self.assertEqual(form, [4, 0])


class HelpersTest(unittest.TestCase):
    def test_padded(self):
        self.assertEqual(padded((1, -2), 4), (1, -2, 0, 0))
        self.assertEqual(padded([1, -2], 2), (1, -2))
        self.assertEqual(padded((0,), 1), (0,))

    def test_moved(self):
        self.assertEqual(moved((5, -2, 0), 0, 2), (0, -2, 5))
        self.assertEqual(moved((5, -2, 0), 1, 2), (5, 0, -2))


if __name__ == "__main__":
    unittest.main()
