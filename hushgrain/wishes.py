"""Wishes for exact values: which of them a house can grant together."""

from itertools import combinations

from hushgrain.checks import checked_house_form
from hushgrain.errors import BadSet, Grantable, NotGrantable, TooMany, UnknownReader
from hushgrain.guards import are_keep_witnesses, exposes, holds, keep_witness, points_at
from hushgrain.things import is_integer
from hushgrain.witnesses import known_witness

MOST_WISHES = 6


def is_grantable(house, wishes, chosen):
    """Tell whether the chosen wishes can all be granted."""
    outlook = Outlook(house, wishes)
    return outlook.is_grantable(outlook.checked_set(chosen))


def maximal_sets(house, wishes):
    """Return the list of the grantable sets that no larger grantable set contains."""
    grantable = Outlook(house, wishes).grantable_sets()
    return [
        chosen for chosen in grantable
        if not any([len(larger) > len(chosen) and _contains(larger, chosen) for larger in grantable])
    ]


def conflicts(house, wishes):
    """Return the list of the sets that are not grantable, but would be without any one wish."""
    return Outlook(house, wishes).conflicts()


def best_set(house, wishes, values):
    """Return the grantable set with the greatest sum of values."""
    best, most = (), 0
    for chosen in Outlook(house, wishes).grantable_sets():
        total = sum([values[index] for index in chosen])
        if total > most:
            best, most = chosen, total
    return best


def grant_witness(house, wishes, chosen):
    """Return a vector for every guard that keeps its secret although the wishes are granted."""
    outlook = Outlook(house, wishes)
    checked = outlook.checked_set(chosen)
    for conflict in outlook.conflicts():
        if _contains(checked, conflict):
            raise NotGrantable(conflict)
    return tuple([keep_witness(guard) for guard in outlook.guards(checked)])


def conflict_witness(house, wishes, chosen):
    """Return (number, grain, witness) of the first guard that would not hold."""
    outlook = Outlook(house, wishes)
    checked = outlook.checked_set(chosen)
    for number, guard in enumerate(outlook.guards(checked)):
        if not holds(guard):
            knowledge, form, _ = guard
            return number, knowledge.grain(form), known_witness(knowledge, form)
    raise Grantable(checked)


def is_grant_witness(house, wishes, chosen, thing):
    """Tell whether the thing shows that the chosen wishes can be granted."""
    outlook = Outlook(house, wishes)
    guards = outlook.guards(outlook.checked_set(chosen))
    return are_keep_witnesses(guards, thing)


def is_conflict_witness(house, wishes, chosen, thing):
    """Tell whether the thing shows that the chosen wishes cannot be granted."""
    outlook = Outlook(house, wishes)
    guards = outlook.guards(outlook.checked_set(chosen))
    return points_at(guards, thing) and exposes(guards[thing[0]], thing[1], thing[2])


class Outlook:
    """The guards of a house as they would be behind some wishes."""

    def __init__(self, house, wishes):
        if len(wishes) > MOST_WISHES:
            raise TooMany("wish")
        readers = house.readers()
        cells = len(house.world())
        self._wishes = []
        for reader, form in wishes:
            if reader not in readers:
                raise UnknownReader(reader)
            self._wishes.append((reader, checked_house_form(form, cells)))
        self._places = house.guards()
        # What a group knows behind some wishes, so that it is computed only once.
        self._known = {}

    def checked_set(self, chosen):
        """Return the set of wishes as a tuple."""
        if not isinstance(chosen, (tuple, list)):
            raise BadSet(chosen)
        last = -1
        for index in chosen:
            if not is_integer(index) or not last < index < len(self._wishes):
                raise BadSet(chosen)
            last = index
        return tuple(chosen)

    def guards(self, chosen):
        """Return all guards with the chosen wishes granted."""
        found = []
        for _, _, group, (knowledge, form, margin) in self._places:
            granted = tuple([index for index in chosen if self._wishes[index][0] in group])
            found.append((self._behind(group, knowledge, granted), form, margin))
        return found

    def is_grantable(self, chosen):
        """Tell whether every guard holds with the chosen wishes granted."""
        return all([holds(guard) for guard in self.guards(chosen)])

    def conflicts(self):
        """Return the list of all conflicts, shorter ones first."""
        found = []
        for chosen in self._sets():
            if not any([_contains(chosen, conflict) for conflict in found]) and not self.is_grantable(chosen):
                found.append(chosen)
        return found

    def grantable_sets(self):
        """Return the list of all grantable sets, shorter ones first."""
        found = self.conflicts()
        return [
            chosen for chosen in self._sets()
            if not any([_contains(chosen, conflict) for conflict in found])
        ]

    def _sets(self):
        """Return all sets of wishes, shorter ones first, then in ascending order."""
        count = len(self._wishes)
        return [chosen for many in range(count + 1) for chosen in combinations(range(count), many)]

    def _behind(self, group, knowledge, granted):
        """Return the knowledge of the group with the observations of these wishes at the end."""
        if not granted:
            return knowledge
        if (group, granted) not in self._known:
            before = self._behind(group, knowledge, granted[:-1])
            form = self._wishes[granted[-1]][1]
            self._known[group, granted] = before.observe(form, 0)
        return self._known[group, granted]


def _contains(larger, smaller):
    """Tell whether the first set contains the second one."""
    return all([index in larger for index in smaller])
