"""The sources of a query: which columns they have, and what these stand for in a combined row."""

from hushgrain.errors import QueryError, UnknownDay, UnknownTable

# Stands among the kinds of open columns.
CLOSED = "closed"


class Scope:
    """The sources of a query over some tables."""

    def __init__(self, sources, tables):
        self._sources = [_source(source, place, tables) for place, source in enumerate(sources)]
        if len(self._sources) == 2 and self._sources[0][0] == self._sources[1][0]:
            raise QueryError("alias", 1)
        self._size = max(tables.cells(), 1)

    def size(self):
        """Return the size of the forms."""
        return self._size

    def places(self, column):
        """Return the indexes of the sources that the column may belong to."""
        _, source, name, _ = column
        return [
            place for place, (called, kinds, _) in enumerate(self._sources)
            if name in kinds and source in (None, called)
        ]

    def kind(self, operand):
        """Return the kind of a column or a literal: "int", "word" or CLOSED."""
        if operand[0] == "column":
            return self._sources[self.places(operand)[0]][1][operand[2]]
        return "int" if operand[0] == "integer" else "word"

    def combined_rows(self):
        """Return the tuples of one row of every source, in order."""
        combined = [()]
        for _, _, rows in self._sources:
            combined = [before + (row,) for before in combined for row in rows]
        return combined

    def worth(self, combined, operand):
        """Return the tag, the entry or the literal that a column or a literal stands for."""
        if operand[0] == "column":
            return combined[self.places(operand)[0]][operand[2]]
        return operand[1]


def _source(source, place, tables):
    """Return (what it is called, the kinds of its columns, its rows as dicts)."""
    table, day, alias = source
    try:
        rows = tables.rows(table, day)
    except UnknownDay:
        raise QueryError("day", place) from None
    except UnknownTable:
        raise QueryError("table", place) from None
    tags, closed = tables.schema(table)
    kinds = {"id": "int"}
    for column, kind in tags:
        kinds[column] = kind
    for column in closed:
        kinds[column] = CLOSED
    names = list(kinds)
    shown = [dict(zip(names, (row,) + values + entries)) for row, values, entries in rows]
    return table if alias is None else alias, kinds, shown
