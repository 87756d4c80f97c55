"""What several tests share: lattices made at random, and searches through small vectors."""

from itertools import product


def units(size):
    return [tuple(int(j == k) for j in range(size)) for k in range(size)]


def random_basis(chance, size, rank, reach):
    """Make a basis with pivots up to the reach."""
    columns = sorted(chance.sample(range(size), rank))
    pivots = {column: chance.randint(1, reach) for column in columns}
    rows = []
    for first in columns:
        row = [0] * size
        row[first] = pivots[first]
        for column in range(first + 1, size):
            if column in pivots:
                row[column] = chance.randrange(pivots[column])
            else:
                row[column] = chance.randint(-reach, reach)
        rows.append(tuple(row))
    return tuple(rows)


def random_vector(chance, size, reach):
    return tuple(chance.randint(-reach, reach) for _ in range(size))


def combination(factors, rows, size):
    return tuple(sum(factor * row[k] for factor, row in zip(factors, rows)) for k in range(size))


def combinations_of(rows, size, reach):
    """All sums of multiples of the rows with factors up to the reach."""
    span = range(-reach, reach + 1)
    return {combination(factors, rows, size) for factors in product(span, repeat=len(rows))}


def scrambled(chance, basis, size, more):
    """Make generators of the same lattice: mixed rows, sums, repeated rows and zero vectors."""
    rows = [list(row) for row in basis]
    for _ in range(3 * len(rows) if len(rows) > 1 else 0):
        one, other = chance.sample(range(len(rows)), 2)
        factor = chance.choice((-2, -1, 1, 2))
        rows[one] = [x + factor * y for x, y in zip(rows[one], rows[other])]
    made = [tuple(row) for row in rows]
    for _ in range(more):
        kind = chance.randrange(4)
        if kind == 0 or not made:
            made.append((0,) * size)
        elif kind == 1:
            made.append(chance.choice(made))
        else:
            made.append(combination([chance.randint(-3, 3) for _ in rows], rows, size))
    chance.shuffle(made)
    return tuple(row if chance.randrange(2) else tuple(-x for x in row) for row in made)


def box(size, reach):
    """All vectors with entries up to the reach."""
    return product(range(-reach, reach + 1), repeat=size)


def value(form, vector):
    return sum(weight * entry for weight, entry in zip(form, vector))


def divides(number, other):
    """Tell whether the number divides the other one; 0 divides only 0."""
    return other == 0 if number == 0 else other % number == 0


def listed(thing):
    """Turn all tuples into lists."""
    if isinstance(thing, (tuple, list)):
        return [listed(part) for part in thing]
    return thing


def frozen(thing):
    """Turn all lists into tuples."""
    return tuple(frozen(part) for part in thing) if isinstance(thing, (tuple, list)) else thing


def changed_places(thing):
    """All things that differ from this nested tuple at one place: a list, a bool, a part less or more."""
    if isinstance(thing, tuple):
        yield list(thing)
        yield thing + (0,)
        yield thing[:-1] if thing else (None,)
        yield None
        for place, part in enumerate(thing):
            for other in changed_places(part):
                yield thing[:place] + (other,) + thing[place + 1:]
    elif isinstance(thing, str):
        for other in (thing + " ", thing[:-1], thing.upper(), None, True, 0, (thing,), [thing]):
            if other != thing:
                yield other
    else:
        for other in (thing + 1, thing - 1, -thing, bool(thing), str(thing), None, (thing,), [thing]):
            if repr(other) != repr(thing):
                yield other


# Any objects that are no tuples of integers.
ODD_THINGS = (
    None, True, False, 0, 1, -1, 10 ** 300, "", "a", "(1, 2)", (), [], ((),), ([],), [[]], (None,),
    (True, False), [1, 2], ("a", "b"), ((1, 2), [3]), (1, (2, (3, [4]))),
)
