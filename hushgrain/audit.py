"""The audit of what a server answered, without its tables and its cells."""

from hushgrain.errors import BadEntry, NotClean, NotKept
from hushgrain.forms import is_form
from hushgrain.groups import all_groups, effective_groups
from hushgrain.guards import are_keep_witnesses, break_of, finest_modulus, holds, is_break, keep_witness
from hushgrain.journal import EVERYONE
from hushgrain.knowledge import Knowledge
from hushgrain.numbers import divisors
from hushgrain.things import frozen, is_integer

CLEAN = ("clean",)


def audit(policy, history):
    """Return what is wrong with the first entry that is harmful or coarse, else ("clean",)."""
    policy = frozen(policy)
    entries = _checked_entries(policy, history)
    watch = Watch(policy)
    broken = watch.first_broken()
    if broken is not None:
        raise NotKept(broken)
    for index, (reader, form, modulus) in enumerate(entries):
        finest = watch.finest(reader, form)
        watch.learn(reader, form, modulus)
        broken = watch.first_broken()
        if broken is not None:
            return ("harmful", index) + watch.shown(broken)
        if reader != EVERYONE and modulus != finest:
            return "coarse", index, finest
    return CLEAN


def audit_paper(policy, history):
    """Return a paper (keeps, breaks), by which anyone can check that the history is clean."""
    verdict = audit(policy, history)
    if verdict != CLEAN:
        raise NotClean(verdict[1])
    policy = frozen(policy)
    watch = Watch(policy)
    breaks = []
    for reader, form, modulus in _checked_entries(policy, history):
        if reader != EVERYONE:
            finer = _next_finer(modulus, policy[1])
            breaks.append(tuple([watch.broken_by(reader, form, other) for other in finer]))
        watch.learn(reader, form, modulus)
    return tuple([keep_witness(guard) for guard in watch.guards()]), tuple(breaks)


def paper_holds(policy, history, thing):
    """Tell whether the thing is a paper of the history."""
    policy = frozen(policy)
    entries = _checked_entries(policy, history)
    if not isinstance(thing, tuple) or len(thing) != 2:
        return False
    keeps, breaks = thing
    asked = [entry for entry in entries if entry[0] != EVERYONE]
    if not isinstance(breaks, tuple) or len(breaks) != len(asked):
        return False
    watch = Watch(policy)
    place = 0
    for reader, form, modulus in entries:
        if reader != EVERYONE:
            if not watch.are_breaks(reader, form, _next_finer(modulus, policy[1]), breaks[place]):
                return False
            place += 1
        watch.learn(reader, form, modulus)
    return are_keep_witnesses(watch.guards(), keeps)


class Watch:
    """The guards of a policy, with what their groups know so far."""

    def __init__(self, policy):
        size, self._bound, readers, declared, secrets = policy
        groups = all_groups(readers, declared)
        self._known = {}
        self._places = []
        for name, form, margin, cleared in secrets:
            for group in effective_groups(groups, cleared):
                self._known[group] = Knowledge(size)
                self._places.append((name, group, form, margin))

    def guards(self):
        """Return all guards, in their order."""
        return [(self._known[group], form, margin) for _, group, form, margin in self._places]

    def learn(self, reader, form, modulus):
        """Add an observation to the knowledge of all groups that it reaches."""
        for group in list(self._known):
            if reader == EVERYONE or reader in group:
                self._known[group] = self._known[group].observe(form, modulus)

    def first_broken(self):
        """Return the number of the first guard that does not hold, None if there is none."""
        for number, guard in enumerate(self.guards()):
            if not holds(guard):
                return number
        return None

    def shown(self, number):
        """Return (name, group, grain) of a guard."""
        name, group, form, _ = self._places[number]
        return name, group, self._known[group].grain(form)

    def finest(self, reader, form):
        """Return the finest safe modulus."""
        return finest_modulus(self._against(reader)[1], form, self._bound)

    def broken_by(self, reader, form, modulus):
        """Return (number, grain, witness) for a modulus that is not safe."""
        numbers, guards = self._against(reader)
        index, grain, witness = break_of(guards, form, modulus)
        return numbers[index], grain, witness

    def are_breaks(self, reader, form, moduli, thing):
        """Tell whether the thing has a break for each of the moduli."""
        if not isinstance(thing, tuple) or len(thing) != len(moduli):
            return False
        return all([self._is_break(reader, form, modulus, part) for modulus, part in zip(moduli, thing)])

    def _is_break(self, reader, form, modulus, thing):
        guards = self.guards()
        return is_break(guards, form, modulus, thing) and reader in self._places[thing[0]][1]

    def _against(self, reader):
        """Return the numbers of the guards whose effective group contains the reader, and these guards."""
        numbers = [number for number, place in enumerate(self._places) if reader in place[1]]
        guards = self.guards()
        return numbers, [guards[number] for number in numbers]


def _checked_entries(policy, history):
    """Return the entries as tuples."""
    size, bound, readers, _, _ = policy
    entries = frozen(history)
    for index, (reader, form, modulus) in enumerate(entries):
        if reader != EVERYONE and reader not in readers or not is_form(form, size):
            raise BadEntry(index)
        if not _is_answer(modulus, bound) or (reader == EVERYONE and modulus != 0):
            raise BadEntry(index)
    return entries


def _is_answer(modulus, bound):
    """Tell whether the modulus is one of those that a server with this bound may answer with."""
    if not is_integer(modulus) or modulus < 0:
        return False
    return modulus == 0 or bound % modulus == 0


def _next_finer(modulus, bound):
    """Return the moduli that are finer than this one by a single step, in order."""
    if modulus == 0:
        return ()
    if modulus == bound:
        return (0,)
    primes = [factor for factor in divisors(bound // modulus) if len(divisors(factor)) == 2]
    return tuple([prime * modulus for prime in primes])
