"""Queries: from their text to nested tuples, and back to the canonical text."""

from hushgrain.errors import QuerySyntax
from hushgrain.lexer import tokens

# For sums and for conditions: the sign ahead of one part, and the signs between two parts as
# (kind, text, word in the tree, rank). A sign of a higher rank binds more tightly.
SUM_AHEAD = ("symbol", "-", "negate", 3)
SUM_BETWEEN = (("symbol", "*", "multiply", 2), ("symbol", "+", "add", 1), ("symbol", "-", "subtract", 1))
CONDITION_AHEAD = ("reserved", "not", "not", 3)
CONDITION_BETWEEN = (("reserved", "and", "and", 2), ("reserved", "or", "or", 1))
OPENING = ("symbol", "(", "", 0)
COMPARISONS = ("=", "!=", "<", "<=", ">", ">=")


def parse(text):
    """Return the query as nested tuples."""
    reading = Reading(text)
    reading.expect("reserved", "select")
    results = _several(reading, _result)
    reading.expect("reserved", "from")
    sources = [_source(reading)]
    if reading.accept("symbol", ","):
        sources.append(_source(reading))
    condition = None
    if reading.accept("reserved", "where"):
        condition = _tree(reading, CONDITION_AHEAD, CONDITION_BETWEEN, _comparison)
    by = ()
    if reading.accept("reserved", "by"):
        by = _several(reading, _column)
    if not reading.is_over():
        reading.refuse()
    return "query", results, tuple(sources), condition, by


def written(query):
    """Return the canonical text of a parsed query."""
    _, results, sources, condition, by = query
    text = "select " + ", ".join([_result_text(result) for result in results])
    text += " from " + ", ".join([_source_text(source) for source in sources])
    if condition is not None:
        text += " where " + _tree_text(condition, CONDITION_AHEAD, CONDITION_BETWEEN, _comparison_text)
    if by:
        text += " by " + ", ".join([_operand_text(column) for column in by])
    return text


class Reading:
    """The tokens of a text, taken one after another."""

    def __init__(self, text):
        self._tokens = tokens(text)
        self._length = len(text)
        self._taken = 0

    def is_over(self):
        """Tell whether all tokens are taken."""
        return self._taken == len(self._tokens)

    def place(self):
        """Return the position of the next token, the length of the text if there is none."""
        if self.is_over():
            return self._length
        return self._tokens[self._taken][2]

    def refuse(self):
        """Raise the error of a next token that cannot stand here."""
        raise QuerySyntax(self.place())

    def sees(self, kind, value):
        """Tell whether the next token is this one."""
        return not self.is_over() and self._tokens[self._taken][:2] == (kind, value)

    def accept(self, kind, value):
        """Take the next token if it is this one; tell whether it was."""
        seen = self.sees(kind, value)
        if seen:
            self._taken += 1
        return seen

    def expect(self, kind, value):
        """Take the next token, which must be this one."""
        if not self.accept(kind, value):
            self.refuse()

    def sees_kind(self, kind):
        """Tell whether the next token is of this kind."""
        return not self.is_over() and self._tokens[self._taken][0] == kind

    def take(self, kind):
        """Take the next token, which must be of this kind; return its value."""
        if not self.sees_kind(kind):
            self.refuse()
        self._taken += 1
        return self._tokens[self._taken - 1][1]


def _several(reading, part):
    """Read parts with commas between them."""
    found = [part(reading)]
    while reading.accept("symbol", ","):
        found.append(part(reading))
    return tuple(found)


def _result(reading):
    if reading.accept("reserved", "count"):
        return ("count",)
    reading.expect("reserved", "sum")
    reading.expect("symbol", "(")
    summed = _tree(reading, SUM_AHEAD, SUM_BETWEEN, _factor)
    reading.expect("symbol", ")")
    return "sum", summed


def _source(reading):
    table = reading.take("name")
    day = None
    alias = None
    if reading.accept("reserved", "at"):
        reading.expect("reserved", "day")
        day = reading.take("integer")
    if reading.accept("reserved", "as"):
        alias = reading.take("name")
    return table, day, alias


def _tree(reading, ahead, between, leaf):
    """Read a sum or a condition, whose innermost parts `leaf` reads."""
    # Its own stacks instead of calls in calls, because a text may be nested deeper than these.
    pending = []
    parts = []
    while True:
        _take_openings(reading, ahead, pending)
        parts.append(leaf(reading))
        while OPENING in pending and reading.accept("symbol", ")"):
            _combine(parts, pending, 1)
            pending.pop()
        sign = _accepted(reading, between)
        if sign is None:
            break
        _combine(parts, pending, sign[3])
        pending.append(sign)
    _combine(parts, pending, 1)
    if pending:
        reading.refuse()
    return parts[0]


def _take_openings(reading, ahead, pending):
    """Take what may stand ahead of a part into the pending signs."""
    sign = _accepted(reading, (ahead, OPENING))
    while sign is not None:
        pending.append(sign)
        sign = _accepted(reading, (ahead, OPENING))


def _accepted(reading, signs):
    """Take the next token if it is one of the signs; return this sign or None."""
    for sign in signs:
        if reading.accept(sign[0], sign[1]):
            return sign
    return None


def _combine(parts, pending, rank):
    """Carry out the last pending signs as long as they have this rank at least."""
    while pending and pending[-1][3] >= rank:
        word = pending.pop()[2]
        last = parts.pop()
        if word in ("negate", "not"):
            parts.append((word, last))
        else:
            parts.append((word, parts.pop(), last))


def _factor(reading):
    if reading.sees_kind("integer"):
        return "integer", reading.take("integer")
    return _column(reading)


def _column(reading):
    position = reading.place()
    name = reading.take("name")
    if reading.accept("symbol", "."):
        return "column", name, reading.take("name"), position
    return "column", None, name, position


def _comparison(reading):
    operand = _column(reading) if reading.sees_kind("name") else _literal(reading)
    if reading.accept("reserved", "in"):
        reading.expect("symbol", "(")
        literals = _several(reading, _literal)
        reading.expect("symbol", ")")
        return "in", operand, literals
    for symbol in COMPARISONS:
        if reading.accept("symbol", symbol):
            other = _column(reading) if reading.sees_kind("name") else _literal(reading)
            return "compare", symbol, operand, other
    reading.refuse()


def _literal(reading):
    if reading.sees_kind("word"):
        return "word", reading.take("word")
    if reading.accept("symbol", "-"):
        return "integer", -reading.take("integer")
    return "integer", reading.take("integer")


def _result_text(result):
    if result[0] == "count":
        return "count"
    return "sum(" + _tree_text(result[1], SUM_AHEAD, SUM_BETWEEN, _operand_text) + ")"


def _source_text(source):
    table, day, alias = source
    text = table
    if day is not None:
        text += f" at day {day}"
    if alias is not None:
        text += f" as {alias}"
    return text


def _tree_text(tree, ahead, between, leaf):
    """Return the text of a sum or a condition, whose innermost parts `leaf` writes."""
    pieces = []
    # What is still to be written, the next one last: texts, and trees with the least rank
    # that needs no parentheses at their place.
    pending = [(tree, 1)]
    while pending:
        item, least = pending.pop()
        if least == 0:
            pieces.append(item)
        else:
            pending.extend(_unfolded(item, least, ahead, between, leaf)[::-1])
    return "".join(pieces)


def _unfolded(tree, least, ahead, between, leaf):
    """Return the pieces of the tree in order: (text, 0), or (tree, least rank)."""
    if tree[0] == ahead[2]:
        # Only the sign "-" stands without a space.
        sign = "-" if ahead[1] == "-" else ahead[1] + " "
        return [(sign, 0), (tree[1], ahead[3])]
    for _, sign, word, rank in between:
        if tree[0] == word:
            pieces = [(tree[1], rank), (f" {sign} ", 0), (tree[2], rank + 1)]
            if rank < least:
                return [("(", 0), *pieces, (")", 0)]
            return pieces
    return [(leaf(tree), 0)]


def _comparison_text(tree):
    if tree[0] == "in":
        literals = ", ".join([_operand_text(literal) for literal in tree[2]])
        return f"{_operand_text(tree[1])} in ({literals})"
    return f"{_operand_text(tree[2])} {tree[1]} {_operand_text(tree[3])}"


def _operand_text(operand):
    """Return the text of a column, an integer or a word."""
    if operand[0] == "column":
        return operand[2] if operand[1] is None else f"{operand[1]}.{operand[2]}"
    if operand[0] == "word":
        return f'"{operand[1]}"'
    return str(operand[1])
