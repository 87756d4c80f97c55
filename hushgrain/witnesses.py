"""Witnesses of what is known and of what is not: they are checked by sums and products alone."""

from math import lcm

from hushgrain.checks import checked_form
from hushgrain.forms import dot, is_form, scale_form
from hushgrain.lattice import grain_of, solve
from hushgrain.numbers import bezout, fraction, gcd_of, is_multiple
from hushgrain.things import is_integer


def known_witness(knowledge, form):
    """Return a KNOWN witness for the grain of the form."""
    form = checked_form(form, knowledge.size())
    grain = knowledge.grain(form)
    rest = (form, 1)
    parts = []
    # Backwards: what is left of the form must have the same multiples as values on the
    # lattice ahead of each observation, and at last on all vectors.
    for (asked, modulus), basis in reversed(list(zip(knowledge.observations(), knowledge.stages()))):
        part = _part(basis, asked, modulus, grain, rest)
        rest = _without(rest, part, asked)
        parts.append(part)
    tops, bottom = rest
    form_left = tuple([top // (bottom * grain) if grain else 0 for top in tops])
    return form_left, tuple(reversed(parts))


def world_witness(knowledge, form, amount):
    """Return a WORLD witness for the amount, None if there is none."""
    return solve(knowledge.basis(), checked_form(form, knowledge.size()), amount)


def is_known_witness(knowledge, form, grain, thing):
    """Tell whether the thing is a KNOWN witness that holds for this grain."""
    form = checked_form(form, knowledge.size())
    if not isinstance(thing, tuple) or len(thing) != 2 or not is_form(thing[0], len(form)):
        return False
    observed = knowledge.observations()
    if not _are_parts(thing[1], len(observed)):
        return False
    for (top, bottom), (_, modulus) in zip(thing[1], observed):
        if not is_multiple(top * modulus, bottom * grain):
            return False
    return _adds_up(form, grain, thing, observed)


def is_world_witness(knowledge, form, amount, thing):
    """Tell whether the thing is a WORLD witness that holds for this amount."""
    form = checked_form(form, knowledge.size())
    if not is_form(thing, len(form)) or dot(form, thing) != amount:
        return False
    observed = knowledge.observations()
    return all([is_multiple(dot(asked, thing), modulus) for asked, modulus in observed])


def _part(basis, asked, modulus, grain, rest):
    """Return how often to take the observed form away from the rest, a fraction.

    The basis is that of the lattice ahead of the observation. Behind it, all values of the
    rest are multiples of the grain. As soon as the value at one vector with the least value
    of the observed form is one, too, all values ahead of it are.
    """
    step = grain_of(basis, asked)
    if step == 0 or (modulus and (grain == 0 or step % modulus == 0)):
        return (0, 1)
    tops, bottom = rest
    worth = dot(tops, solve(basis, asked, step))
    if modulus == 0:
        # Without the multiples of the grain the numbers stay small.
        left = worth % (bottom * grain) if grain else worth
        return fraction(left, bottom * step)
    common = gcd_of((modulus, step))
    needed = modulus // common
    times = needed * worth // (bottom * grain)
    inverse = bezout(step // common, needed)[1]
    return fraction(grain * (times * inverse % needed), modulus)


def _without(rest, part, asked):
    """Return the rest without this part of the observed form, as (tops, bottom) again."""
    tops, bottom = rest
    if part[0] == 0:
        return rest
    shared = lcm(bottom, part[1])
    taken = scale_form(part[0] * (shared // part[1]), asked)
    left = [top - less for top, less in zip(scale_form(shared // bottom, tops), taken)]
    common = gcd_of((shared, *left))
    return tuple([top // common for top in left]), shared // common


def _are_parts(thing, count):
    """Tell whether the thing is a tuple of this many fractions."""
    if not isinstance(thing, tuple) or len(thing) != count:
        return False
    return all([is_form(part, 2) and part[1] > 0 and gcd_of(part) == 1 for part in thing])


def _adds_up(form, grain, witness, observed):
    """Tell whether the form is the sum that the witness says."""
    base, parts = witness
    shared = 1
    for part in parts:
        shared = lcm(shared, part[1])
    total = scale_form(shared * grain, base)
    for (top, bottom), (asked, _) in zip(parts, observed):
        factor = top * (shared // bottom)
        total = tuple([entry + factor * weight for entry, weight in zip(total, asked)])
    return total == scale_form(shared, form)
