"""Queries and guards worked out in the plainest way, to compare the program with."""

from itertools import product

from hushgrain.knowledge import Knowledge
from support import divides


def worth(scope, combined, part):
    if part[0] != "column":
        return part[1]
    _, source, name, _ = part
    for row, (called, columns) in zip(combined, scope):
        if source in (None, called) and name in columns:
            return row[columns.index(name)]
    raise AssertionError(part)


def calculated(scope, combined, part, world):
    """The value of a sum for a combined row, in a world."""
    word = part[0]
    if word == "negate":
        return -calculated(scope, combined, part[1], world)
    if word in ("add", "subtract", "multiply"):
        left, right = (calculated(scope, combined, side, world) for side in part[1:])
        return {"add": left + right, "subtract": left - right, "multiply": left * right}[word]
    found = worth(scope, combined, part)
    return world[found[0]] + found[1] if isinstance(found, tuple) else found


def true(scope, combined, part):
    word = part[0]
    if word == "not":
        return not true(scope, combined, part[1])
    if word == "and":
        return true(scope, combined, part[1]) and true(scope, combined, part[2])
    if word == "or":
        return true(scope, combined, part[1]) or true(scope, combined, part[2])
    if word == "in":
        found = worth(scope, combined, part[1])
        return any(found == literal[1] for literal in part[2])
    left, right = worth(scope, combined, part[2]), worth(scope, combined, part[3])
    if part[1] == "=":
        return left == right
    if part[1] == "!=":
        return not left == right
    return {"<": left < right, "<=": left <= right, ">": left > right, ">=": left >= right}[part[1]]


def answers(query, tables, world):
    """What evaluated returns for a query that has no error."""
    _, results, sources, condition, by = query
    scope, rows = [], []
    for table, day, alias in sources:
        tags, closed = tables.schema(table)
        scope.append((alias or table, ["id"] + [name for name, _ in tags] + list(closed)))
        rows.append([(row,) + values + entries for row, values, entries in tables.rows(table, day)])
    groups = {} if by else {(): []}
    for combined in product(*rows):
        if condition is None or true(scope, combined, condition):
            labels = tuple(worth(scope, combined, column) for column in by)
            groups[labels] = groups.get(labels, []) + [combined]
    found = []
    for labels in sorted(groups):
        for result in results:
            if result[0] == "count":
                found.append((labels, len(groups[labels])))
            else:
                values = [calculated(scope, combined, result[1], world) for combined in groups[labels]]
                found.append((labels, sum(values)))
    return found


def forms(query, tables):
    """What compiled returns for a query that has no error: found by its values in worlds."""
    size = max(tables.cells(), 1)
    base = answers(query, tables, (0,) * size)
    ones = [answers(query, tables, tuple(int(j == k) for j in range(size))) for k in range(size)]
    return [
        (labels, tuple(one[place][1] - constant for one in ones), constant)
        for place, (labels, constant) in enumerate(base)
    ]


def all_divisors(bound):
    small = [k for k in range(1, 1001) if k * k <= bound and bound % k == 0]
    return sorted(set(small) | {bound // k for k in small})


def groups_of(readers, declared):
    """All groups in order."""
    found = {()} | {(reader,) for reader in readers} | set(declared)
    return sorted(found, key=lambda group: (len(group), group))


def guards_of(house, more=()):
    """The guards of a house behind more entries, with all knowledge built anew from its history."""
    size = max(len(house.world()), 1)
    found = []
    for name, margin, cleared, instances in house.secrets():
        effective = {tuple(r for r in group if r not in cleared) for group in house.groups()}
        for instance, form in enumerate(instances):
            for group in sorted(effective, key=lambda group: (len(group), group)):
                seen = [(f, m) for reader, f, m in house.history() + list(more) if reader == "" or reader in group]
                seen += [(f, 0) for _, reader, f in house.reservations() if reader in group]
                found.append((name, instance, group, (Knowledge(size, seen), form, margin)))
    return found


def safe(guards, form, modulus):
    for knowledge, secret, margin in guards:
        after = Knowledge(knowledge.size(), knowledge.observations() + ((form, modulus),))
        if not divides(after.grain(secret), margin):
            return False
    return True


def finest(house, more, reader, form, bound):
    """The finest safe modulus, by a search through 0 and all divisors of the bound."""
    guards = [guard for _, _, group, guard in guards_of(house, more) if reader in group]
    found = [modulus for modulus in [0] + all_divisors(bound)[::-1] if safe(guards, form, modulus)]
    for modulus in found:
        assert divides(modulus, found[0]), found
    return found[0]


def moduli(house, reader, rows, bound):
    """The moduli with which a house has to answer these rows (labels, form, constant)."""
    more = []
    for _, form, _ in rows:
        more.append((reader, form, finest(house, more, reader, form, bound)))
    return [modulus for _, _, modulus in more]
