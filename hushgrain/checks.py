"""Checks of arguments that may be any object; each raises the error that stands for it."""

from hushgrain.errors import BadForm, BadModulus
from hushgrain.forms import is_form
from hushgrain.things import is_integer

LARGEST_MODULUS = 1000000
MOST_CELLS = 12


def checked_form(form, size):
    """Return the form as a tuple."""
    if not isinstance(form, (tuple, list)) or not is_form(tuple(form), size):
        raise BadForm(form)
    return tuple(form)


def checked_modulus(modulus):
    """Return the modulus."""
    if not is_integer(modulus) or not 0 <= modulus <= LARGEST_MODULUS:
        raise BadModulus(modulus)
    return modulus
