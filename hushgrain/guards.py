"""Guards: secrets that a group must not know too precisely."""

from hushgrain.errors import NotKept
from hushgrain.forms import dot
from hushgrain.lattice import hermite
from hushgrain.numbers import divisors, gcd_of, is_multiple
from hushgrain.things import is_integer
from hushgrain.witnesses import is_known_witness, is_world_witness, known_witness, world_witness


def holds(guard):
    """Tell whether the secret is kept by what is known."""
    knowledge, form, margin = guard
    return is_multiple(margin, knowledge.grain(form))


def keep_witness(guard):
    """Return a vector that nobody notices and that changes the secret by its margin, or None."""
    knowledge, form, margin = guard
    return world_witness(knowledge, form, margin)


def is_safe(guards, form, modulus):
    """Tell whether every guard holds after the observation is added."""
    return all([_stays(_prospect(guard, form), modulus) for guard in guards])


def safe_divisors(guards, form, bound):
    """Return all safe divisors of the bound, in ascending order."""
    prospects = _kept_prospects(guards, form)
    return tuple([modulus for modulus in divisors(bound) if _all_stay(prospects, modulus)])


def finest_modulus(guards, form, bound):
    """Return 0 if it is safe, else the greatest safe divisor of the bound."""
    prospects = _kept_prospects(guards, form)
    if _all_stay(prospects, 0):
        return 0
    return max([modulus for modulus in divisors(bound) if _all_stay(prospects, modulus)])


def break_of(guards, form, modulus):
    """Return (index, grain, witness) for the first guard that the modulus breaks, None if it is safe."""
    for index, guard in enumerate(guards):
        if not _stays(_prospect(guard, form), modulus):
            knowledge, secret, _ = guard
            after = knowledge.observe(form, modulus)
            return index, after.grain(secret), known_witness(after, secret)
    return None


def is_break(guards, form, modulus, thing):
    """Tell whether the thing shows that the modulus breaks a guard."""
    if not points_at(guards, thing):
        return False
    index, grain, witness = thing
    knowledge, secret, margin = guards[index]
    return exposes((knowledge.observe(form, modulus), secret, margin), grain, witness)


def points_at(guards, thing):
    """Tell whether the thing is a tuple of three things, the first one the index of a guard."""
    if not isinstance(thing, tuple) or len(thing) != 3 or not is_integer(thing[0]):
        return False
    return 0 <= thing[0] < len(guards)


def exposes(guard, grain, witness):
    """Tell whether the witness shows that the guard, with this grain, does not hold."""
    knowledge, secret, margin = guard
    if not is_integer(grain) or grain < 0 or is_multiple(margin, grain):
        return False
    return is_known_witness(knowledge, secret, grain, witness)


def are_keep_witnesses(guards, thing):
    """Tell whether the thing is a tuple with a vector for every guard that keeps its secret."""
    if not isinstance(thing, tuple) or len(thing) != len(guards):
        return False
    return all([
        is_world_witness(knowledge, secret, margin, part)
        for (knowledge, secret, margin), part in zip(guards, thing)
    ])


def _prospect(guard, form):
    """Return (step, carried, free, margin), from which the grain behind any modulus follows.

    On the lattice of the guard, the form and the secret have just the pairs of values
    (x step, x carried + y free), for all integers x and y.
    """
    knowledge, secret, margin = guard
    step = carried = free = 0
    pairs = [(dot(form, row), dot(secret, row)) for row in knowledge.basis()]
    for first, second in hermite(pairs, 2):
        if first:
            step, carried = first, second
        else:
            free = second
    return step, carried, free, margin


def _stays(prospect, modulus):
    """Tell whether the guard of this prospect holds with the modulus."""
    step, carried, free, margin = prospect
    if step:
        # x step is a multiple of the modulus just for the multiples x of this quotient.
        carried *= modulus // gcd_of((step, modulus))
    return is_multiple(margin, gcd_of((carried, free)))


def _all_stay(prospects, modulus):
    return all([_stays(prospect, modulus) for prospect in prospects])


def _kept_prospects(guards, form):
    """Return the prospects of guards that all hold now."""
    for index, guard in enumerate(guards):
        if not holds(guard):
            raise NotKept(index)
    return [_prospect(guard, form) for guard in guards]
