"""Three ways to represent one lattice: by vectors, by forms, and prime by prime."""

from hushgrain.checks import checked_form, checked_modulus
from hushgrain.duals import dual_of
from hushgrain.errors import UnknownWord
from hushgrain.forms import scale_form
from hushgrain.lattice import (
    class_count, grain_of, is_basis, join_of, meet_of, pivot_column, project, restrict, saturation, vanishing,
    whole,
)
from hushgrain.numbers import prime_powers
from hushgrain.things import frozen, is_integer

WORDS = ("primal", "dual", "local")
LARGEST_PRIME = 1000


def represented(basis, word, size):
    """Return the representation of the lattice that is called so."""
    if word not in WORDS:
        raise UnknownWord(word)
    basis = frozen(basis)
    if word == "dual":
        return _dual(basis, size)
    if word == "local":
        return _local(basis, size)
    return "primal", basis


def basis_of(representation, size):
    """Return the basis of the lattice."""
    if representation[0] == "dual":
        return _basis_of_dual(representation, size)
    if representation[0] == "local":
        return _basis_of_local(representation, size)
    return frozen(representation[1])


def is_representation(thing, size):
    """Tell whether the thing is the representation of a lattice."""
    if not isinstance(thing, tuple) or not thing:
        return False
    if thing[0] == "primal":
        return len(thing) == 2 and is_basis(thing[1], size)
    if thing[0] == "dual":
        shaped = _is_shaped_dual(thing, size)
    else:
        shaped = thing[0] == "local" and _is_shaped_local(thing, size)
    # A lattice has just one representation of each kind.
    return shaped and represented(basis_of(thing, size), thing[0], size) == thing


def observed(representation, form, modulus, size):
    """Return the representation, in the same way, of the lattice restricted by the observation."""
    basis = restrict(basis_of(representation, size), form, modulus)
    return represented(basis, representation[0], size)


def grain_in(representation, form, size):
    """Return the grain of the form."""
    return grain_of(basis_of(representation, size), form)


class Engine:
    """A lattice that observations restrict, in one of the representations."""

    def __init__(self, word, size):
        self._size = size
        self._state = represented(whole(size), word, size)

    def observe(self, form, modulus):
        """Restrict the lattice by the observation."""
        checked = checked_form(form, self._size)
        self._state = observed(self._state, checked, checked_modulus(modulus), self._size)

    def grain(self, form):
        """Return the grain of the form."""
        return grain_in(self._state, checked_form(form, self._size), self._size)

    def basis(self):
        """Return the basis of the lattice."""
        return basis_of(self._state, self._size)

    def state(self):
        """Return the representation."""
        return self._state

    def switch(self, word):
        """Change to the representation that is called so."""
        self._state = represented(self.basis(), word, self._size)

    def copy(self):
        """Return an independent copy."""
        made = Engine("primal", self._size)
        made._state = self._state
        return made

    def __eq__(self, other):
        return isinstance(other, Engine) and self._size == other._size and self.basis() == other.basis()


def _dual(basis, size):
    """Return ("dual", exact, scale, rows)."""
    exact = vanishing(basis, size)
    pivots = [pivot_column(row) for row in exact]
    # The entries in these columns tell a vector of the lattice from all others.
    columns = tuple([column for column in range(size) if column not in pivots])
    scale, rows = dual_of(project(basis, columns), len(columns))
    return "dual", exact, scale, tuple([_spread(row, columns, size) for row in rows])


def _spread(row, columns, size):
    """Return the vector with these entries in these columns, and 0 elsewhere."""
    entries = [0] * size
    for column, entry in zip(columns, row):
        entries[column] = entry
    return tuple(entries)


def _basis_of_dual(representation, size):
    _, exact, scale, rows = representation
    basis = whole(size)
    for form in exact:
        basis = restrict(basis, form, 0)
    for form in rows:
        basis = restrict(basis, form, scale)
    return basis


def _is_shaped_dual(thing, size):
    """Tell whether the thing consists of the parts of a dual representation."""
    if len(thing) != 4 or not is_integer(thing[2]) or thing[2] < 1:
        return False
    return is_basis(thing[1], size) and is_basis(thing[3], size)


def _local(basis, size):
    """Return ("local", saturation, local parts)."""
    saturated = saturation(basis, size)
    parts = []
    for prime, power in prime_powers(class_count(saturated, basis), LARGEST_PRIME):
        # The power takes every vector of the saturation to the lattice, but for classes of an
        # order that the prime does not divide.
        multiples = [scale_form(power, row) for row in saturated]
        parts.append((prime, join_of(basis, multiples, size)))
    return "local", saturated, tuple(parts)


def _basis_of_local(representation, size):
    _, saturated, parts = representation
    basis = frozen(saturated)
    for _, part in parts:
        basis = meet_of(basis, part, size)
    return basis


def _is_shaped_local(thing, size):
    """Tell whether the thing consists of the parts of a local representation."""
    if len(thing) != 3 or not is_basis(thing[1], size) or not isinstance(thing[2], tuple):
        return False
    return all([_is_shaped_part(part, size) for part in thing[2]])


def _is_shaped_part(part, size):
    if not isinstance(part, tuple) or len(part) != 2 or not is_integer(part[0]):
        return False
    return part[0] <= LARGEST_PRIME and is_basis(part[1], size)
