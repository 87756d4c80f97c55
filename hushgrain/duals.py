"""Lattices given by forms: the vectors at which some forms have multiples of an integer as values."""

from hushgrain.forms import scale_form
from hushgrain.lattice import coordinates, hermite, pivot_product, whole
from hushgrain.numbers import gcd_of


def dual_of(basis, size):
    """Return (scale, rows) for a lattice of full rank.

    The lattice has just the vectors at which all rows have multiples of the scale as values, and
    the forms that have such values are just the sums of multiples of the rows. The scale is the
    least one for which there are such rows.
    """
    top = pivot_product(basis)
    # The rows of the inverse matrix, times top: it is a multiple of every order there is.
    inverse = [coordinates(basis, scale_form(top, unit)) for unit in whole(size)]
    common = gcd_of([top] + [entry for row in inverse for entry in row])
    columns = [[row[k] // common for row in inverse] for k in range(size)]
    return top // common, hermite(columns, size)
