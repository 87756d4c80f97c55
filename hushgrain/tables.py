"""Tables with open columns and closed ones; of closed ones only the numbers of the cells are here."""

from hushgrain.checks import MOST_CELLS
from hushgrain.errors import (
    BadSchema, BadTags, Duplicate, TooMany, UnknownColumn, UnknownDay, UnknownRow, UnknownTable,
)
from hushgrain.names import is_name, is_tag
from hushgrain.things import is_integer

LAST_DAY = 7
MOST_COLUMNS = 4
KINDS = ("int", "word")


class Tables:
    """All tables, and how they were at the end of every earlier day."""

    def __init__(self):
        self._schemas = {}
        self._rows = {}
        self._next_ids = {}
        self._past = []
        self._cells = 0

    def cells(self):
        """Return the number of cells."""
        return self._cells

    def day(self):
        """Return the current day."""
        return len(self._past)

    def add_table(self, name, tags, closed):
        """Add a table without rows."""
        if not is_name(name):
            raise BadSchema("name")
        if not _are_tag_columns(tags):
            raise BadSchema("tags")
        if not _are_closed_columns(closed, [column for column, _ in tags]):
            raise BadSchema("closed")
        if name in self._schemas:
            raise Duplicate(name)
        self._schemas[name] = (tuple([(column, kind) for column, kind in tags]), tuple(closed))
        self._rows[name] = {}
        self._next_ids[name] = 1

    def add_row(self, table, tags):
        """Add a row with new cells; return its id."""
        self.check_row(table, tags)
        closed = self._schemas[table][1]
        self._check_cells(len(closed))
        row = self._next_ids[table]
        self._next_ids[table] = row + 1
        self._rows[table][row] = (tuple(tags), tuple([self._new_entry() for _ in closed]))
        return row

    def check_row(self, table, tags):
        """Raise what add_row raises, but for the number of cells."""
        kinds = [kind for _, kind in self.schema(table)[0]]
        for position in range(max(len(kinds), len(tags))):
            if position >= len(kinds) or position >= len(tags):
                raise BadTags(position)
            if not is_tag(tags[position], kinds[position]):
                raise BadTags(position)

    def check_entry(self, table, row, column):
        """Raise what change raises, but for the number of cells."""
        self._row(table, row)
        _place(column, self._schemas[table][1])

    def remove_row(self, table, row):
        """Remove a row; its id is not used again."""
        self._row(table, row)
        del self._rows[table][row]

    def set_tag(self, table, row, column, tag):
        """Replace a tag."""
        tags, entries = self._row(table, row)
        declared = self._schemas[table][0]
        place = _place(column, [name for name, _ in declared])
        if not is_tag(tag, declared[place][1]):
            raise BadTags(0)
        self._rows[table][row] = (_replaced(tags, place, tag), entries)

    def shift(self, table, row, column, amount):
        """Add the amount to the offset of an entry."""
        tags, entries = self._row(table, row)
        place = _place(column, self._schemas[table][1])
        cell, offset = entries[place]
        self._rows[table][row] = (tags, _replaced(entries, place, (cell, offset + amount)))

    def change(self, table, row, column):
        """Replace an entry by a new cell; return the old cell and the new one."""
        self.check_entry(table, row, column)
        tags, entries = self._rows[table][row]
        place = self._schemas[table][1].index(column)
        self._check_cells(1)
        entry = self._new_entry()
        self._rows[table][row] = (tags, _replaced(entries, place, entry))
        return entries[place][0], entry[0]

    def next_day(self):
        """Keep everything as it is under the current day; return the next day."""
        if len(self._past) == LAST_DAY:
            raise TooMany("day")
        self._past.append(_copied(self._rows))
        return len(self._past)

    def rows(self, table, day=None):
        """Return the rows (id, tags, entries) of a table on a day, by id."""
        if day is not None and (not is_integer(day) or not 0 <= day <= len(self._past)):
            raise UnknownDay(day)
        shown = self._rows
        if day is not None and day < len(self._past):
            shown = self._past[day]
        if not isinstance(table, str) or table not in shown:
            raise UnknownTable(table)
        return [(row, tags, entries) for row, (tags, entries) in shown[table].items()]

    def schema(self, table):
        """Return (tags, closed) as declared."""
        if not isinstance(table, str) or table not in self._schemas:
            raise UnknownTable(table)
        return self._schemas[table]

    def copy(self):
        """Return an independent copy."""
        made = Tables()
        made._schemas = dict(self._schemas)
        made._rows = _copied(self._rows)
        made._next_ids = dict(self._next_ids)
        # What is kept of a day never changes, so the copies may share it.
        made._past = list(self._past)
        made._cells = self._cells
        return made

    def __eq__(self, other):
        return (
            isinstance(other, Tables)
            and self._schemas == other._schemas
            and self._rows == other._rows
            and self._next_ids == other._next_ids
            and self._past == other._past
            and self._cells == other._cells
        )

    def _row(self, table, row):
        """Return the tags and the entries of a row."""
        self.schema(table)
        if not is_integer(row) or row not in self._rows[table]:
            raise UnknownRow(row)
        return self._rows[table][row]

    def _check_cells(self, added):
        if self._cells + added > MOST_CELLS:
            raise TooMany("cell")

    def _new_entry(self):
        """Make a cell; return an entry for it."""
        self._cells += 1
        return self._cells - 1, 0


def _are_tag_columns(tags):
    """Tell whether these are open columns as a table may declare them."""
    if not isinstance(tags, (tuple, list)) or len(tags) > MOST_COLUMNS:
        return False
    names = []
    for pair in tags:
        if not isinstance(pair, (tuple, list)) or len(pair) != 2 or pair[1] not in KINDS:
            return False
        names.append(pair[0])
    return _are_new_names(names, [])


def _are_closed_columns(closed, others):
    """Tell whether these are closed columns as a table may declare them beside the others."""
    if not isinstance(closed, (tuple, list)) or not 1 <= len(closed) <= MOST_COLUMNS:
        return False
    return _are_new_names(closed, others)


def _are_new_names(names, others):
    """Tell whether these are names of columns, no two of them or of the others alike."""
    taken = ["id"] + others
    for name in names:
        if not is_name(name) or name in taken:
            return False
        taken.append(name)
    return True


def _place(column, names):
    """Return the index of the column."""
    if column not in names:
        raise UnknownColumn(column)
    return names.index(column)


def _replaced(items, place, item):
    """Return the tuple with another item at this place."""
    return items[:place] + (item,) + items[place + 1:]


def _copied(rows):
    """Return a copy of the rows of all tables; a row itself never changes."""
    return {name: dict(rows[name]) for name in rows}
