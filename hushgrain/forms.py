"""Forms and vectors: tuples of integers, one for each cell."""

from hushgrain.things import is_integer


def is_form(thing, size):
    """Tell whether the thing is a tuple of this many integers."""
    if not isinstance(thing, tuple) or len(thing) != size:
        return False
    return all([is_integer(entry) for entry in thing])


def dot(form, vector):
    """Return the value of the form at the vector."""
    return sum([weight * entry for weight, entry in zip(form, vector)])


def add_forms(one, other):
    """Return the sum, entry by entry."""
    return tuple([left + right for left, right in zip(one, other)])


def scale_form(factor, form):
    """Return the multiple, entry by entry."""
    return tuple([factor * weight for weight in form])


def padded(form, size):
    """Return the form with the weight 0 for every cell that it lacks."""
    return tuple(form) + (0,) * (size - len(form))


def moved(form, old, new):
    """Return the form with the weight of the old cell at the new one instead."""
    weights = list(form)
    weights[new], weights[old] = weights[old], 0
    return tuple(weights)
