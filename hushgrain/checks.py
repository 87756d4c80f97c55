"""Checks of arguments that may be any object; each raises the error that stands for it."""

from hushgrain.errors import BadForm, BadModulus, BadValues
from hushgrain.forms import is_form
from hushgrain.things import is_integer

LARGEST_MODULUS = 1000000
MOST_CELLS = 12


def checked_form(form, size):
    """Return the form as a tuple."""
    if not isinstance(form, (tuple, list)) or not is_form(tuple(form), size):
        raise BadForm(form)
    return tuple(form)


def checked_modulus(modulus):
    """Return the modulus."""
    if not is_integer(modulus) or not 0 <= modulus <= LARGEST_MODULUS:
        raise BadModulus(modulus)
    return modulus


def checked_house_form(form, cells):
    """Return the form, of a house with this many cells, as a tuple."""
    checked = checked_form(form, max(cells, 1))
    # Without cells there is nothing that a weight could belong to.
    if cells == 0 and checked != (0,):
        raise BadForm(form)
    return checked


def check_values(values, count):
    """Refuse anything but this many integers."""
    for position in range(max(count, len(values))):
        if position >= min(count, len(values)) or not is_integer(values[position]):
            raise BadValues(position)
