import copy
import random
import unittest
from itertools import product
from math import gcd

from hushgrain.errors import BadForm, BadModulus, HushError, UnknownWord
from hushgrain.knowledge import Knowledge
from hushgrain.lattice import class_count, contains, coordinates, hermite, includes, is_basis, meet_of, saturation, whole
from hushgrain.represent import Engine, basis_of, grain_in, is_representation, observed, represented
from support import ODD_THINGS, box, changed_places, divides, frozen, listed, random_basis, random_vector, units, value

WORDS = ("primal", "dual", "local")
ZERO_DUAL = ("dual", ((1,),), 1, ())
PRIMES = [p for p in range(2, 1000) if all(p % q for q in range(2, int(p ** 0.5) + 1))]


def small_bases(seed, times, largest=4):
    """Lattices of any rank with small pivots."""
    chance = random.Random(seed)
    for turn in range(times):
        size = 1 + turn % largest
        yield random_basis(chance, size, chance.randint(0, size), 6), size


def smooth_basis(chance, size, rank):
    """A lattice with pivots that are products of primes up to 997."""
    rows = [list(row) for row in random_basis(chance, size, rank, 1)]
    columns = [next(k for k, entry in enumerate(row) if entry) for row in rows]
    pivots = []
    for _ in rows:
        pivot = 1
        for _ in range(chance.randint(0, 2)):
            pivot *= chance.choice((2, 2, 3, 5, 7, 997, chance.choice(PRIMES)))
        pivots.append(pivot)
    for row, column in zip(rows, columns):
        for place, other in enumerate(columns):
            if other > column:
                row[other] = chance.randrange(pivots[place])
        row[column] = pivots[columns.index(column)]
        for other in range(column + 1, size):
            if other not in columns:
                # A multiple of the pivot, so that the class count has no other primes.
                row[other] = row[column] * chance.randint(-2, 2)
    return tuple(map(tuple, rows))


def only_small_primes(number):
    for prime in PRIMES:
        while number % prime == 0:
            number //= prime
    return number == 1


class RepresentTest(unittest.TestCase):
    def fails(self, error, fields, call, *arguments):
        with self.assertRaises(HushError) as caught:
            call(*arguments)
        self.assertIs(caught.exception.__class__, error)
        self.assertEqual(repr(vars(caught.exception)), repr(fields))


class RepresentedTest(RepresentTest):
    def test_examples(self):
        self.assertEqual(represented(((2, 0),), "dual", 2), ("dual", ((0, 1),), 2, ((1, 0),)))
        self.assertEqual(represented((), "dual", 1), ZERO_DUAL)
        wanted = ("local", ((1, 0), (0, 1)), ((2, ((2, 0), (0, 1))), (3, ((1, 0), (0, 3)))))
        self.assertEqual(represented(((2, 0), (0, 3)), "local", 2), wanted)
        self.assertEqual(represented(((2, 0), (0, 3)), "primal", 2), ("primal", ((2, 0), (0, 3))))

    def test_zero_and_whole_lattices(self):
        for size in range(1, 13):
            every = whole(size)
            self.assertEqual(represented((), "primal", size), ("primal", ()))
            self.assertEqual(represented((), "dual", size), ("dual", every, 1, ()))
            self.assertEqual(represented((), "local", size), ("local", (), ()))
            self.assertEqual(represented(every, "primal", size), ("primal", every))
            self.assertEqual(represented(every, "dual", size), ("dual", (), 1, every))
            self.assertEqual(represented(every, "local", size), ("local", every, ()))

    def test_more_cases(self):
        # The forms of the lattice are the multiples of (3, -2); so y' is a multiple of (0, 1 / 3).
        self.assertEqual(represented(((2, 3),), "dual", 2), ("dual", ((3, -2),), 3, ((0, 1),)))
        self.assertEqual(represented(((2, 3),), "local", 2), ("local", ((2, 3),), ()))
        self.assertEqual(represented(((4, 6),), "dual", 2), ("dual", ((3, -2),), 6, ((0, 1),)))
        self.assertEqual(represented(((4, 6),), "local", 2), ("local", ((2, 3),), ((2, ((4, 6),)),)))
        self.assertEqual(represented(((2, 0), (0, 3)), "dual", 2), ("dual", (), 6, ((3, 0), (0, 2))))
        self.assertEqual(represented(((12,),), "local", 1), ("local", ((1,),), ((2, ((4,),)), (3, ((3,),)))))

    def test_dual_by_its_conditions(self):
        for basis, size in small_bases(1, 240):
            self.check_dual(basis, size)

    def check_dual(self, basis, size):
        word, exact, scale, rows = represented(basis, "dual", size)
        self.assertEqual(word, "dual")
        self.assertTrue(is_basis(exact, size) and is_basis(rows, size))
        # exact: all forms that vanish on the lattice.
        self.assertEqual(len(exact), size - len(basis))
        self.assertTrue(all(value(form, row) == 0 for form in exact for row in basis))
        self.assertEqual(saturation(exact, size), exact)
        pivots = [next(k for k, entry in enumerate(row) if entry) for row in exact]
        others = [k for k in range(size) if k not in pivots]
        # rows: scale times vectors of the dual that are 0 in the pivot columns of exact ..
        self.assertTrue(all(row[k] == 0 for row in rows for k in pivots))
        self.assertTrue(all(value(row, vector) % scale == 0 for row in rows for vector in basis))
        # .. all of them: with the integer ones among them, their own dual is the lattice.
        for k in others:
            self.assertTrue(contains(rows, tuple(scale * entry for entry in units(size)[k])))
        known = Knowledge(size, [(form, 0) for form in exact])
        for row in rows:
            self.assertLessEqual(scale, 1000000)
            known = known.observe(row, scale)
        self.assertEqual(known.basis(), basis)
        self.assertEqual(gcd(scale, *[entry for row in rows for entry in row]), 1)

    def test_dual_by_a_search_through_fractions(self):
        for basis, size in small_bases(2, 60, 2):
            _, exact, scale, rows = represented(basis, "dual", size)
            pivots = [next(k for k, entry in enumerate(row) if entry) for row in exact]
            bottom = 2 * scale
            for tops in product(range(-bottom, bottom + 1), repeat=size):
                if any(tops[k] for k in pivots):
                    continue
                inside = all(value(tops, row) % bottom == 0 for row in basis)
                found = all(top % 2 == 0 for top in tops) and contains(rows, tuple(top // 2 for top in tops))
                self.assertIs(inside, found, (basis, tops))

    def test_local_by_a_search(self):
        for basis, size in small_bases(3, 60, 3):
            word, saturated, parts = represented(basis, "local", size)
            self.assertEqual((word, saturated), ("local", saturation(basis, size)))
            count = class_count(saturated, basis)
            self.assertEqual([prime for prime, _ in parts], [p for p in PRIMES if count % p == 0])
            meet = saturated
            for prime, part in parts:
                meet = meet_of(meet, part, size)
                self.assertTrue(is_basis(part, size))
                for vector in box(size, 4):
                    if contains(saturated, vector):
                        multiples = [s for s in range(1, count + 1) if s % prime]
                        inside = any(contains(basis, tuple(s * v for v in vector)) for s in multiples)
                        self.assertIs(contains(part, vector), inside)
            self.assertEqual(meet, basis)

    def test_there_and_back(self):
        for basis, size in small_bases(4, 240):
            for word in WORDS:
                self.check_word(basis, word, size)

    def check_word(self, basis, word, size):
        representation = represented(basis, word, size)
        self.assertEqual(representation, frozen(representation))
        self.assertEqual(represented(listed(basis), word, size), representation)
        self.assertEqual(basis_of(representation, size), basis)
        self.assertEqual(basis_of(listed(representation), size), basis)
        self.assertIs(is_representation(representation, size), True)

    def test_primes_up_to_997_and_their_products(self):
        chance = random.Random(5)
        for prime in (2, 3, 31, 37, 499, 991, 997):
            for basis in (((prime,),), ((prime * prime,),), ((prime * 997 * 2,),)):
                for word in WORDS:
                    self.check_word(basis, word, 1)
        self.assertEqual(represented(((997,),), "local", 1), ("local", ((1,),), ((997, ((997,),)),)))
        seen = 0
        for turn in range(48):
            size = 1 + turn % 12
            basis = smooth_basis(chance, size, chance.randint(0, size))
            self.assertTrue(is_basis(basis, size))
            count = class_count(saturation(basis, size), basis)
            seen += count > 1000
            self.assertTrue(only_small_primes(count))
            for word in WORDS:
                self.check_word(basis, word, size)
            parts = represented(basis, "local", size)[2]
            for prime, part in parts:
                found = class_count(saturation(basis, size), part)
                self.assertEqual(count % found, 0)
                self.assertNotEqual(count // found % prime, 0)
                while found % prime == 0:
                    found //= prime
                self.assertEqual(found, 1)
                self.assertTrue(includes(part, basis))
        self.assertGreater(seen, 10)

    def test_large_numbers(self):
        # Saturated lattices and large duals: nothing of this is factored.
        big = 10 ** 99 + 7
        for basis in (((1, big),), ((big, big + 1),), ((2 ** 300, 0), (0, 3 ** 150))):
            basis = hermite(basis, 2)
            for word in WORDS:
                self.check_word(basis, word, 2)
        self.check_word(((big, 3), (0, big)), "dual", 2)
        self.check_word(((big, 3), (0, big)), "primal", 2)

    def test_unknown_words(self):
        for word in ("", "Primal", "prime", "primal ", "dual\n", "loca"):
            self.fails(UnknownWord, {"word": word}, represented, ((1,),), word, 1)
            self.fails(UnknownWord, {"word": word}, represented, (), word, 1)
            self.fails(UnknownWord, {"word": word}, Engine, word, 1)

    def test_observed_and_grain_in(self):
        chance = random.Random(6)
        for basis, size in small_bases(7, 120):
            form, modulus = random_vector(chance, size, 5), chance.choice((0, 1, 2, 6, 12, 97, 1000000, 994009))
            inside = [v for v in box(size, 2 if size > 2 else 6) if contains(basis, v)]
            kept = [v for v in inside if divides(modulus, value(form, v))]
            grain = gcd(*[value(form, row) for row in basis])
            restricted = []
            for word in WORDS:
                representation = represented(basis, word, size)
                found = observed(representation, form, modulus, size)
                self.assertEqual(observed(listed(representation), list(form), modulus, size), found)
                self.assertEqual(found[0], word)
                self.assertIs(is_representation(found, size), True)
                restricted.append(basis_of(found, size))
                for passed in (representation, listed(representation)):
                    self.assertEqual(grain_in(passed, form, size), grain)
                    self.assertEqual(grain_in(passed, list(form), size), grain)
            self.assertEqual(restricted, restricted[:1] * 3)
            self.assertEqual([v for v in inside if contains(restricted[0], v)], kept)

    def test_keywords_and_arguments_stay(self):
        basis, form = [[2, 1], [0, 3]], [1, 1]
        before = copy.deepcopy((basis, form))
        for word in WORDS:
            made = represented(size=2, word=word, basis=basis)
            self.assertEqual(represented(basis, word, 2), made)
            self.assertEqual(basis_of(size=2, representation=made), ((2, 1), (0, 3)))
            self.assertIs(is_representation(size=2, thing=made), True)
            self.assertEqual(grain_in(size=2, form=form, representation=made), 3)
            self.assertEqual(basis_of(observed(size=2, modulus=6, form=form, representation=made), 2), ((2, 4), (0, 6)))
            passed = listed(made)
            kept = copy.deepcopy(passed)
            observed(passed, form, 6, 2)
            basis_of(passed, 2)
            self.assertEqual(passed, kept)
        self.assertEqual((basis, form), before)


class IsRepresentationTest(RepresentTest):
    def test_example(self):
        self.assertIs(is_representation(("dual", (), 2, ((4,),)), 1), False)

    def test_every_change_of_one_thing(self):
        count = 0
        for basis, size in small_bases(11, 24, 3):
            for word in WORDS:
                thing = represented(basis, word, size)
                for other in changed_places(thing):
                    count += 1
                    found = is_representation(other, size)
                    if found:
                        self.assertEqual(other, frozen(other))
                        self.assertNotIn("True", repr(other))
                        self.assertNotIn("False", repr(other))
                        self.assertEqual(represented(basis_of(other, size), other[0], size), other)
                    if word == "primal" and isinstance(other, tuple) and len(other) == 2 and other[0] == "primal":
                        self.assertIs(found, is_basis(other[1], size))
        self.assertGreater(count, 1000)

    def test_dual_conditions_one_by_one(self):
        good = ("dual", ((0, 1),), 2, ((1, 0),))
        self.assertIs(is_representation(good, 2), True)
        for thing in (
            ("dual", ((0, 2),), 2, ((1, 0),)),              # exact holds no half of its form
            ("dual", ((0, 1),), 2, ((1, 1),)),              # not 0 in the pivot column of exact
            ("dual", ((0, 1),), 2, ((2, 0),)),              # a scale that is not the least one
            ("dual", ((0, 1),), 1, ((2, 0),)),              # (1, 0) is in every dual
            ("dual", ((0, 1),), 3, ((2, 0),)),
            ("dual", ((0, 1),), 2, ()),                     # too few rows
            ("dual", ((0, 1),), 2, ((1, 0), (0, 1))),       # too many rows
            ("dual", ((0, 1),), 2, ((1, 0), (0, 2))),
            ("dual", (), 2, ((1, 0),)),                     # exact has too few forms
            ("dual", ((1, 0), (0, 1)), 2, ((1, 0),)),       # exact has too many forms
            ("dual", ((0, -1),), 2, ((1, 0),)),             # no basis
            ("dual", ((0, 1),), 2, ((-1, 0),)),
            ("dual", ((0, 1),), 0, ((1, 0),)),              # no scale
            ("dual", ((0, 1),), -2, ((1, 0),)),
            ("dual", ((0, 1),), True, ((1, 0),)),
            ("dual", ((0, 1),), "2", ((1, 0),)),
            ("dual", ((0, 1),), 2), ("dual", ((0, 1),), 2, ((1, 0),), ()),
            ("primal", ((0, 1),), 2, ((1, 0),)), ("local", ((0, 1),), 2, ((1, 0),)),
            ("dual", ((0, 1, 0),), 2, ((1, 0),)), ("dual", ((0, 1),), 2, ((1, 0, 0),)),
            ["dual", ((0, 1),), 2, ((1, 0),)], ("dual", [(0, 1)], 2, ((1, 0),)), ("dual", ([0, 1],), 2, ((1, 0),)),
            ("dual", ((0, 1),), 2, [(1, 0)]), ("dual", ((0, 1),), 2, ([1, 0],)), ("dual", ((False, True),), 2, ((1, 0),)),
        ):
            self.assertIs(is_representation(thing, 2), False, thing)
        self.assertIs(is_representation(("dual", ((0, 1),), 1, ((1, 0),)), 2), True)
        self.assertIs(is_representation(ZERO_DUAL, 1), True)
        for scale in (0, 2, True):
            self.assertIs(is_representation(("dual", ((1,),), scale, ()), 1), False)

    def test_local_conditions_one_by_one(self):
        every, two, three = ((1, 0), (0, 1)), ((2, 0), (0, 1)), ((1, 0), (0, 3))
        self.assertIs(is_representation(("local", every, ((2, two), (3, three))), 2), True)
        self.assertIs(is_representation(("local", every, ((2, two),)), 2), True)
        self.assertIs(is_representation(("local", every, ()), 2), True)
        self.assertIs(is_representation(("local", (), ()), 2), True)
        self.assertIs(is_representation(("local", ((1, 1),), ((2, ((4, 4),)),)), 2), True)
        for thing in (
            ("local", every, ((3, three), (2, two))),              # not in ascending order
            ("local", every, ((2, two), (2, two))),
            ("local", every, ((2, two), (3, every))),              # 3 does not divide the class count
            ("local", every, ((2, three), (3, two))),
            ("local", every, ((2, ((6, 0), (0, 1))),)),            # the class count is no power of 2
            ("local", every, ((6, ((6, 0), (0, 1))),)),            # no prime
            ("local", every, ((4, ((4, 0), (0, 1))),)),
            ("local", every, ((1, every),)), ("local", every, ((0, every),)), ("local", every, ((-2, two),)),
            ("local", every, ((2, ((2, 0),)),)),                   # infinitely many classes
            ("local", ((2, 0),), ()),                              # not saturated
            ("local", ((2, 0), (0, 1)), ((2, ((4, 0), (0, 1))),)),
            ("local", ((1, 1),), ((2, ((2, 0),)),)),               # not in the saturation
            ("local", ((1, 1),), ((2, two),)),
            ("local", every, ((1009, ((1009, 0), (0, 1))),)),      # a prime above 1,000
            ("local", every, ((2, two), (1009, ((1009, 0), (0, 1))))),
            ("local", every, ((2, ((2018, 0), (0, 1))),)),
            ("local", every), ("local", every, (), ()), ("dual", every, ((2, two),)), ("primal", every, ()),
            ("local", every, ((2, two, ()),)), ("local", every, ((2,),)), ("local", every, (2, two)), ("local", every, None),
            ["local", every, ((2, two),)], ("local", list(every), ((2, two),)), ("local", every, [(2, two)]),
            ("local", every, ([2, two],)), ("local", every, ((2, list(two)),)), ("local", every, ((2, ([2, 0], (0, 1))),)),
            ("local", every, ((True, two),)), ("local", every, (("2", two),)), ("local", every, ((2, ((2, 0), (0, True))),)),
        ):
            self.assertIs(is_representation(thing, 2), False, thing)

    def test_primal_conditions(self):
        for basis, size in small_bases(12, 40):
            self.assertIs(is_representation(("primal", basis), size), True)
            for thing in (["primal", basis], ("primal", list(basis)), ("primal",), ("primal", basis, ()), (basis, "primal"),
                          ("Primal", basis), ("dual", basis), ("local", basis), (basis,)):
                self.assertIs(is_representation(thing, size), False, thing)
            if basis:
                self.assertIs(is_representation(("primal", basis), size + 1), False)
        for thing in (((2, 4), (0, 3)), ((-1, 0),), ((0, 0),), ((0, 1), (1, 0)), ((1, True),), ((1,),)):
            self.assertIs(is_representation(("primal", thing), 2), False, thing)

    def test_any_object(self):
        for thing in ODD_THINGS:
            for size in (1, 2, 3):
                self.assertIs(is_representation(thing, size), False, thing)
                for word in WORDS + ("", None, True):
                    self.assertIs(is_representation((word, thing, thing, thing), size), False)
                    if word != "local" or thing != ():
                        self.assertIs(is_representation((word, thing, thing), size), False, thing)
                    if word != "primal" or thing != ():
                        self.assertIs(is_representation((word, thing), size), False, thing)
        big = 10 ** 299
        for thing in (("dual", ((big, 1),), big, ((0, big),)), ("local", ((big, 1),), ((2, ((big, 1),)),)),
                      ("dual", (), big, ((big - 1, 3), (0, big)))):
            self.assertIs(is_representation(thing, 2), False)


class EngineTest(RepresentTest):
    def test_observations(self):
        chance = random.Random(21)
        for turn in range(60):
            size = 1 + turn % 5
            engines = [Engine(word, size) for word in WORDS]
            known = Knowledge(size)
            for _ in range(6):
                form, modulus = random_vector(chance, size, 6), chance.choice((0, 1, 2, 3, 12, 30, 997, 961, 5040))
                if not only_small_primes(class_count(saturation(known.observe(form, modulus).basis(), size),
                                                     known.observe(form, modulus).basis())):
                    continue
                known = known.observe(form, modulus)
                for engine, word in zip(engines, WORDS):
                    self.assertIsNone(engine.observe(form, modulus))
                    self.check(engine, word, known)
                    other = random_vector(chance, size, 9)
                    self.assertEqual(engine.grain(other), known.grain(other))

    def check(self, engine, word, known):
        self.assertEqual(engine.basis(), known.basis())
        self.assertEqual(engine.state(), represented(known.basis(), word, known.size()))

    def test_new_engines(self):
        for size in (1, 2, 12):
            for word in WORDS:
                engine = Engine(size=size, word=word)
                self.check(engine, word, Knowledge(size))
                self.assertEqual(engine.grain((3,) * size), 3)

    def test_switch_to_each_word_and_back(self):
        known = Knowledge(3, [((1, 2, 3), 12), ((0, 1, 1), 0), ((1, 0, 0), 35)])
        for word in WORDS:
            for other in WORDS:
                engine = Engine(word, 3)
                for form, modulus in known.observations():
                    engine.observe(form, modulus)
                self.assertIsNone(engine.switch(other))
                self.check(engine, other, known)
                engine.observe(form=[0, 1, 0], modulus=8)
                self.check(engine, other, known.observe((0, 1, 0), 8))
                self.assertIsNone(engine.switch(word=word))
                self.check(engine, word, known.observe((0, 1, 0), 8))
                engine.switch(word)
                self.check(engine, word, known.observe((0, 1, 0), 8))

    def test_errors_change_nothing(self):
        for word in WORDS:
            engine = Engine(word, 2)
            engine.observe((1, 1), 6)
            before = engine.state()
            for form in ODD_THINGS + ((1,), (1, 2, 3), (1, True), [None, 1]):
                if form != [1, 2]:
                    self.fails(BadForm, {"form": frozen(form)}, engine.observe, form, None)
                    self.fails(BadForm, {"form": frozen(form)}, engine.grain, form)
            for modulus in (-1, 1000001, True, False, None, "1", (), [1], (2,)):
                self.fails(BadModulus, {"modulus": frozen(modulus)}, engine.observe, (1, 2), modulus)
            for other in ("", "duals", "Local"):
                self.fails(UnknownWord, {"word": other}, engine.switch, other)
            self.assertEqual(engine.state(), before)

    def test_copies_are_independent(self):
        for word in WORDS:
            engine = Engine(word, 2)
            engine.observe((1, 1), 6)
            made = engine.copy()
            self.assertTrue(made == engine)
            self.assertEqual(made.state(), engine.state())
            made.observe((0, 1), 5)
            made.switch("dual")
            self.assertFalse(made == engine)
            self.assertEqual(engine.state(), represented(((1, 5), (0, 6)), word, 2))
            kept = made.state()
            engine.observe((1, 0), 0)
            self.assertEqual(made.state(), kept)

    def test_equality(self):
        one, other = Engine("primal", 2), Engine("local", 2)
        self.assertTrue(one == other and not one != other)
        one.observe((1, 1), 6)
        self.assertTrue(one != other)
        other.observe((1, 1), 2)
        other.observe((5, 5), 3)
        self.assertTrue(one == other)
        other.switch("dual")
        self.assertTrue(one == other)
        small, large = Engine("primal", 1), Engine("primal", 2)
        small.observe((1,), 0)
        large.observe((1, 0), 0)
        large.observe((0, 1), 0)
        self.assertEqual((small.basis(), large.basis()), ((), ()))
        self.assertTrue(small != large)
        for thing in (Knowledge(2), None, (), ("primal", whole(2)), whole(2), 2, "primal", [Engine("primal", 2)]):
            self.assertFalse(Engine("primal", 2) == thing)
            self.assertFalse(thing == Engine("primal", 2))
            self.assertTrue(Engine("primal", 2) != thing)

    def test_passed_lists_stay(self):
        form = [1, 2]
        engine = Engine("dual", 2)
        engine.observe(form, 7)
        form[0] = 5
        self.assertEqual(engine.basis(), Knowledge(2, [((1, 2), 7)]).basis())
        self.assertEqual(engine.grain([1, 2]), 7)
        self.assertEqual(coordinates(engine.basis(), (5, 1)), (5, -2))


if __name__ == "__main__":
    unittest.main()
