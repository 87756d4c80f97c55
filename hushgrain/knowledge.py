"""What is known about some cells from observations."""

from hushgrain.checks import MOST_CELLS, checked_form, checked_modulus
from hushgrain.errors import BadCells, BadSize
from hushgrain.lattice import grain_of, includes, project, restrict, whole
from hushgrain.numbers import is_multiple
from hushgrain.things import is_integer


class Knowledge:
    """What some observations tell; it never changes."""

    def __init__(self, size, observations=()):
        if not is_integer(size) or not 1 <= size <= MOST_CELLS:
            raise BadSize(size)
        self._size = size
        self._observations = ()
        self._stages = (whole(size),)
        self._add(observations)

    def size(self):
        """Return the number of cells."""
        return self._size

    def observations(self):
        """Return the observations, in their order."""
        return self._observations

    def basis(self):
        """Return the basis of the lattice of the observations."""
        return self._stages[-1]

    def stages(self):
        """Return the bases ahead of every observation and behind the last one."""
        return self._stages

    def grain(self, form):
        """Return the grain of the form: its value is known up to multiples of it."""
        return grain_of(self._stages[-1], checked_form(form, self._size))

    def follows(self, form, modulus):
        """Tell whether the observation adds nothing."""
        grain = self.grain(form)
        return is_multiple(grain, checked_modulus(modulus))

    def observe(self, form, modulus):
        """Return the knowledge with this observation at the end."""
        return self._extended(((form, modulus),))

    def joined(self, other):
        """Return the knowledge with the observations of both."""
        self._check_size(other)
        return self._extended(other.observations())

    def knows(self, other):
        """Tell whether every observation of the other one follows."""
        self._check_size(other)
        return includes(other.basis(), self._stages[-1])

    def spare(self):
        """Return the indexes of the observations that follow from all earlier ones."""
        # An observation that adds something leaves fewer vectors.
        return tuple([
            index for index in range(len(self._observations))
            if self._stages[index] == self._stages[index + 1]
        ])

    def about(self, cells):
        """Return the basis of what is known about these cells alone."""
        if not self._are_cells(cells):
            raise BadCells(cells)
        return project(self._stages[-1], cells)

    def __len__(self):
        return len(self._observations)

    def __eq__(self, other):
        return (
            isinstance(other, Knowledge)
            and self._size == other._size
            and self._stages[-1] == other._stages[-1]
        )

    def _add(self, observations):
        """Take the observations in; only while the object is made."""
        kept = list(self._observations)
        stages = list(self._stages)
        for form, modulus in observations:
            checked = checked_form(form, self._size)
            kept.append((checked, checked_modulus(modulus)))
            stages.append(_narrowed(stages[-1], checked, modulus))
        self._observations = tuple(kept)
        self._stages = tuple(stages)

    def _extended(self, observations):
        """Return the knowledge with these observations at the end."""
        made = Knowledge(self._size)
        made._observations = self._observations
        made._stages = self._stages
        made._add(observations)
        return made

    def _check_size(self, other):
        if other.size() != self._size:
            raise BadSize(other.size())

    def _are_cells(self, cells):
        """Tell whether these are cell numbers, at least one, in ascending order."""
        if not isinstance(cells, (tuple, list)) or not cells:
            return False
        if not all([is_integer(cell) and 0 <= cell < self._size for cell in cells]):
            return False
        return all([cells[k] < cells[k + 1] for k in range(len(cells) - 1)])


def _narrowed(basis, form, modulus):
    """Return the lattice restricted by the observation."""
    if is_multiple(grain_of(basis, form), modulus):
        return basis
    return restrict(basis, form, modulus)
