"""Other cells instead of the old ones: split, measured in other units, put in another order, forgotten."""

from hushgrain.duals import dual_of
from hushgrain.errors import NoForgetting
from hushgrain.forms import add_forms, dot, is_form, scale_form
from hushgrain.knowledge import Knowledge
from hushgrain.lattice import coordinates, hermite, image_of, saturation, whole
from hushgrain.things import frozen


def pulled(form, matrix):
    """Return the form of the new cells that has the same values as the form of the old ones."""
    return tuple([dot(form, row) for row in matrix])


def refined(knowledge, matrix):
    """Return what is known about the new cells that the old ones are made from."""
    observations = [(pulled(form, matrix), modulus) for form, modulus in knowledge.observations()]
    return Knowledge(len(matrix), observations)


def carried_witness(witness, matrix):
    """Return the KNOWN witness for the pulled form."""
    form, parts = witness
    return pulled(form, matrix), frozen(parts)


def split_matrix(size, cell, parts):
    """Return the matrix with which the cell is the sum of several new cells at its place."""
    units = whole(size)
    return units[:cell] + units[cell:cell + 1] * parts + units[cell + 1:]


def unit_matrix(size, cell, factor):
    """Return the matrix with which the cell is a multiple of the new one."""
    units = whole(size)
    return units[:cell] + (scale_form(factor, units[cell]),) + units[cell + 1:]


def order_matrix(places):
    """Return the matrix with which every new cell is the old one at the place that is given."""
    units = whole(len(places))
    return tuple([units[place] for place in places])


def matrix_product(first, second):
    """Return the matrix that maps by the first one, then by the second one."""
    columns = [tuple([row[k] for row in second]) for k in range(len(second[0]))]
    return tuple([tuple([dot(column, row) for column in columns]) for row in first])


def is_forgetting(matrix, size):
    """Tell whether every vector of the size is the image of some vector."""
    if not isinstance(matrix, (tuple, list)):
        return False
    rows = [tuple(row) if isinstance(row, (tuple, list)) else () for row in matrix]
    return all([is_form(row, size) for row in rows]) and hermite(rows, size) == whole(size)


def forgotten(basis, matrix, size):
    """Return what is known about the new cells alone."""
    _check_forgetting(matrix, size)
    return image_of(basis, matrix, size)


def surviving(form, matrix, size):
    """Return the form of the new cells whose pulled form is this one, None if there is none."""
    _check_forgetting(matrix, size)
    marked = [tuple(row) + (weight,) for row, weight in zip(matrix, form)]
    # The vectors of the matrix generate all vectors; a row that is left over has them all 0.
    steps = hermite(marked, size + 1)
    if len(steps) > size:
        return None
    return tuple([row[size] for row in steps])


def join_matrix(size, cells):
    """Return the matrix that replaces the cells by their sum, at the place of the first one."""
    left = [cell for cell in range(size) if cell not in cells[1:]]
    units = whole(len(left))
    kept = [cells[0] if cell in cells else cell for cell in range(size)]
    return tuple([units[left.index(cell)] for cell in kept])


def drop_matrix(size, cell):
    """Return the matrix that leaves the cell out."""
    units = whole(size - 1)
    return units[:cell] + ((0,) * (size - 1),) + units[cell:]


def observations_for(basis, size):
    """Return observations of which the lattice is this one."""
    saturated = saturation(basis, size)
    rank = len(saturated)
    # Behind its values at the vectors of the saturation stands each form itself.
    marked = [tuple([row[k] for row in saturated]) + unit for k, unit in enumerate(whole(size))]
    steps = hermite(marked, rank + size)
    # The first forms have the value 1 at one of these vectors and 0 at the others, the last
    # ones have the value 0 at all of them.
    places, exact = steps[:rank], steps[rank:]
    scale, rows = dual_of(hermite([coordinates(saturated, row) for row in basis], rank), rank)
    found = [(step[rank:], 0) for step in exact]
    if scale > 1:
        for row in rows:
            form = (0,) * size
            for factor, step in zip(row, places):
                form = add_forms(form, scale_form(factor, step[rank:]))
            found.append((form, scale))
    return tuple(found)


def _check_forgetting(matrix, size):
    if not is_forgetting(matrix, size):
        raise NoForgetting()
