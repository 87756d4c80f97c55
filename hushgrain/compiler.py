"""Queries over tables: the forms and the constants of their rows."""

from hushgrain.errors import NotSingle, QueryError
from hushgrain.forms import add_forms, dot, scale_form
from hushgrain.parser import parse
from hushgrain.scope import CLOSED, Scope
from hushgrain.things import frozen

HEAVIEST = 99
# The parts of a sum or a condition that are made of smaller parts.
JOINTS = ("add", "subtract", "multiply", "negate", "or", "and", "not")
NOWHERE = -1


def compiled(query, tables):
    """Return the list of (labels, form, constant) for every group and every result."""
    _, results, sources, condition, by = frozen(query)
    scope = Scope(sources, tables)
    _check(scope, results, condition, by)
    groups = _groups(scope, condition, by)
    rows = []
    for labels in sorted(list(groups)):
        for result in results:
            form, constant = _total(scope, result, groups[labels])
            rows.append((labels, form, constant))
    if not all([-HEAVIEST <= weight <= HEAVIEST for _, form, _ in rows for weight in form]):
        raise QueryError("weight", NOWHERE)
    return rows


def evaluated(query, tables, world):
    """Return the list of (labels, value) for every group and every result."""
    return [(labels, dot(form, world) + constant) for labels, form, constant in compiled(query, tables)]


def single_form(text, tables):
    """Return the form of the only row of a query."""
    rows = compiled(parse(text), tables)
    if len(rows) != 1:
        raise NotSingle()
    return rows[0][1]


def _check(scope, results, condition, by):
    """Raise the error of the first reason that applies."""
    sums = [_steps(result[1]) for result in results if result[0] == "sum"]
    comparisons = [part for part in _steps(condition) if part[0] not in JOINTS]
    summed = [part for steps in sums for part in steps if part[0] == "column"]
    opened = [column for comparison in comparisons for column in _compared(comparison)] + list(by)
    every = summed + opened
    _refuse("column", [column[3] for column in every if not scope.places(column)])
    _refuse("ambiguous", [column[3] for column in every if len(scope.places(column)) > 1])
    _refuse("closed", [column[3] for column in opened if scope.kind(column) == CLOSED])
    unfit = [_first_position(_compared(part)) for part in comparisons if not _fits(scope, part)]
    words = [column[3] for column in summed if scope.kind(column) == "word"]
    _refuse("kind", unfit + words)
    products = [part for steps in sums for part in steps if part[0] == "multiply"]
    _refuse("linear", [
        _first_position(_columns(product)) for product in products
        if _has_closed(scope, product[1]) and _has_closed(scope, product[2])
    ])


def _refuse(reason, positions):
    """Raise the error of this reason if there are positions of it."""
    if positions:
        raise QueryError(reason, NOWHERE if NOWHERE in positions else min(positions))


def _steps(tree):
    """Return all parts of a sum or a condition, each one behind the parts that it is made of."""
    # Its own stack instead of calls in calls, because a tree may be deeper than these.
    pending = [] if tree is None else [tree]
    found = []
    while pending:
        part = pending.pop()
        found.append(part)
        if part[0] in JOINTS:
            pending.extend(part[1:])
    return found[::-1]


def _columns(tree):
    """Return the columns of a sum, in the order of the text."""
    return [part for part in _steps(tree) if part[0] == "column"]


def _compared(comparison):
    """Return the columns of a comparison, in the order of the text."""
    operands = comparison[1:2] if comparison[0] == "in" else comparison[2:]
    return [operand for operand in operands if operand[0] == "column"]


def _first_position(columns):
    return columns[0][3] if columns else NOWHERE


def _fits(scope, comparison):
    """Tell whether the operands have the kinds that are wanted."""
    if comparison[0] == "in":
        kind = scope.kind(comparison[1])
        return all([scope.kind(literal) == kind for literal in comparison[2]])
    _, symbol, left, right = comparison
    if symbol in ("=", "!="):
        return scope.kind(left) == scope.kind(right)
    return scope.kind(left) == "int" and scope.kind(right) == "int"


def _has_closed(scope, tree):
    return any([scope.kind(column) == CLOSED for column in _columns(tree)])


def _groups(scope, condition, by):
    """Return the combined rows for which the condition is true, in lists by their labels."""
    groups = {} if by else {(): []}
    steps = _steps(condition)
    for combined in scope.combined_rows():
        if not steps or _folded(steps, lambda part: _compare(scope, combined, part), _decide):
            labels = tuple([scope.worth(combined, column) for column in by])
            groups.setdefault(labels, []).append(combined)
    return groups


def _folded(steps, leaf, joined):
    """Return what the last step gives: `leaf` is asked of the smallest parts, `joined` of the others."""
    results = []
    for part in steps:
        if part[0] in JOINTS:
            first = len(results) + 1 - len(part)
            made = joined(part[0], results[first:])
            del results[first:]
        else:
            made = leaf(part)
        results.append(made)
    return results[0]


def _compare(scope, combined, comparison):
    """Tell whether the comparison is true."""
    if comparison[0] == "in":
        return scope.worth(combined, comparison[1]) in [literal[1] for literal in comparison[2]]
    symbol = comparison[1]
    left = scope.worth(combined, comparison[2])
    right = scope.worth(combined, comparison[3])
    if symbol in ("=", "!="):
        return (left == right) == (symbol == "=")
    if symbol in ("<", ">="):
        return (left < right) == (symbol == "<")
    return (left > right) == (symbol == ">")


def _decide(word, truths):
    """Return "not", "and" or "or" of truth values."""
    if word == "not":
        return not truths[0]
    return all(truths) if word == "and" else any(truths)


def _total(scope, result, rows):
    """Return (form, constant) of a result over the rows of a group."""
    total = (0,) * scope.size()
    if result[0] == "count":
        return total, len(rows)
    steps = _steps(result[1])
    constant = 0
    for combined in rows:
        form, added = _folded(steps, lambda part: _term(scope, combined, part), _calculate)
        total = add_forms(total, form)
        constant += added
    return total, constant


def _term(scope, combined, operand):
    """Return (form, constant) of an integer or a column."""
    worth = scope.worth(combined, operand)
    if scope.kind(operand) != CLOSED:
        return (0,) * scope.size(), worth
    cell, offset = worth
    return tuple([1 if place == cell else 0 for place in range(scope.size())]), offset


def _calculate(word, terms):
    """Return (form, constant) of what the word makes of one or two such tuples."""
    if word == "negate":
        return scale_form(-1, terms[0][0]), -terms[0][1]
    (left, first), (right, second) = terms
    if word == "multiply":
        # One of the two forms is zero.
        return add_forms(scale_form(second, left), scale_form(first, right)), first * second
    sign = 1 if word == "add" else -1
    return add_forms(left, scale_form(sign, right)), first + sign * second
