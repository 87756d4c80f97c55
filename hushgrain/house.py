"""The server: tables and their secrets, readers and what they were answered."""

from hushgrain.checks import LARGEST_MODULUS, check_values, checked_house_form, checked_modulus
from hushgrain.compiler import compiled, single_form
from hushgrain.errors import (
    BadGroup, BadMargin, BadModulus, BadName, Duplicate, Exposed, TooMany, UnknownGroup, UnknownReader,
    UnknownReservation, UnknownSecret,
)
from hushgrain.forms import dot, moved, padded
from hushgrain.groups import all_groups, effective_groups
from hushgrain.guards import break_of, finest_modulus, holds
from hushgrain.journal import EVERYONE, Journal
from hushgrain.names import is_name
from hushgrain.parser import parse, written
from hushgrain.tables import Tables
from hushgrain.things import is_integer

LARGEST_MARGIN = 1000000
MOST_READERS = 6
MOST_GROUPS = 8
MOST_SECRETS = 8
MOST_RESERVATIONS = 6
MOST_ENTRIES = 200


class House:
    """A server; all its forms have one size, and all its guards hold at any time."""

    def __init__(self, *, modulus=5040):
        if not is_integer(modulus) or not 1 <= modulus <= LARGEST_MODULUS:
            raise BadModulus(modulus)
        self._bound = modulus
        self._tables = Tables()
        self._values = ()
        self._readers = ()
        self._declared = ()
        # (margin, cleared readers, forms of the instances) by name. Like the tuples here, this
        # dict is replaced and never changed, so that copies may share it.
        self._secrets = {}
        self._reservations = ()
        self._next_reservation = 0
        self._journal = Journal()

    def add_table(self, name, tags, closed):
        """Add a table without rows."""
        self._tables.add_table(name, tags, closed)

    def add_row(self, table, tags, values):
        """Add a row with these integers in new cells; return its id."""
        self._tables.check_row(table, tags)
        check_values(values, len(self._tables.schema(table)[1]))
        row = self._tables.add_row(table, tags)
        self._take_in(values)
        return row

    def remove_row(self, table, row):
        """Remove a row; its cells stay."""
        self._tables.remove_row(table, row)

    def set_tag(self, table, row, column, tag):
        """Replace a tag."""
        self._tables.set_tag(table, row, column, tag)

    def shift(self, table, row, column, amount):
        """Add the amount to the offset of an entry."""
        self._tables.shift(table, row, column, amount)

    def change(self, table, row, column, value):
        """Replace an entry by a new cell with this integer."""
        self._tables.check_entry(table, row, column)
        check_values((value,), 1)
        old, new = self._tables.change(table, row, column)
        self._take_in((value,))
        renewed = {}
        for name, (margin, cleared, forms) in self._secrets.items():
            latest = forms[-1]
            added = (moved(latest, old, new),) if latest[old] else ()
            renewed[name] = (margin, cleared, forms + added)
        self._secrets = renewed

    def next_day(self):
        """Keep the tables as they are under the current day; return the next day."""
        return self._tables.next_day()

    def tables(self):
        """Return a copy of the tables."""
        return self._tables.copy()

    def world(self):
        """Return the integers of all cells; they are for the owner of the data."""
        return self._values

    def add_reader(self, name):
        """Add a reader, who knows the publications."""
        if not is_name(name):
            raise BadName(name)
        if name in self._readers:
            raise Duplicate(name)
        if len(self._readers) == MOST_READERS:
            raise TooMany("reader")
        self._readers = tuple(sorted(self._readers + (name,)))

    def readers(self):
        """Return the names of the readers, in ascending order."""
        return list(self._readers)

    def add_group(self, readers):
        """Declare that these readers may share answers."""
        self._check_readers(readers)
        if len(readers) < 2 or len(set(readers)) < len(readers):
            raise BadGroup()
        group = tuple(sorted(readers))
        if group in self._declared:
            raise Duplicate(group)
        if len(self._declared) == MOST_GROUPS:
            raise TooMany("group")
        trial = self.copy()
        trial._declared += (group,)
        trial._check_guards()
        self._declared = trial._declared

    def drop_group(self, readers):
        """Take the declaration of a group back."""
        group = tuple(sorted(readers))
        if group not in self._declared:
            raise UnknownGroup(group)
        self._declared = tuple([other for other in self._declared if other != group])

    def groups(self):
        """Return all groups: the empty one, single readers, declared ones."""
        return all_groups(self._readers, self._declared)

    def knowledge(self, readers):
        """Return what these readers know together."""
        self._check_readers(readers)
        return self._journal.knowledge(tuple(sorted(set(readers))))

    def add_secret(self, name, query, margin, cleared=()):
        """Add a secret: the form of the only row of the query."""
        if not is_name(name):
            raise BadName(name)
        if name in self._secrets:
            raise Duplicate(name)
        form = single_form(query, self._tables)
        if not is_integer(margin) or not 1 <= margin <= LARGEST_MARGIN:
            raise BadMargin(margin)
        self._check_readers(cleared)
        if len(self._secrets) == MOST_SECRETS:
            raise TooMany("secret")
        self._set_secret(name, (margin, tuple(sorted(set(cleared))), (form,)))

    def drop_secret(self, name):
        """Remove a secret."""
        self._secret(name)
        self._secrets = {other: self._secrets[other] for other in self._secrets if other != name}

    def clear(self, name, reader):
        """Trust the reader with the secret."""
        margin, cleared, forms = self._secret(name)
        self._check_readers((reader,))
        self._set_secret(name, (margin, tuple(sorted(set(cleared + (reader,)))), forms))

    def unclear(self, name, reader):
        """Do not trust the reader with the secret any more."""
        margin, cleared, forms = self._secret(name)
        self._check_readers((reader,))
        left = tuple([other for other in cleared if other != reader])
        self._set_secret(name, (margin, left, forms))

    def secrets(self):
        """Return the list of (name, margin, cleared, forms), by name."""
        return [(name,) + self._secrets[name] for name in sorted(list(self._secrets))]

    def guards(self):
        """Return the list of (name, instance, group, guard)."""
        groups = self.groups()
        known = {}
        found = []
        for name, margin, cleared, forms in self.secrets():
            effective = effective_groups(groups, cleared)
            for group in effective:
                if group not in known:
                    known[group] = self._guarded_knowledge(group)
            for instance, form in enumerate(forms):
                for group in effective:
                    found.append((name, instance, group, (known[group], form, margin)))
        return found

    def ask(self, reader, query):
        """Answer the rows of the query, each as precisely as is safe: (labels, modulus, value)."""
        self._check_readers((reader,))
        parsed = parse(query)
        answers = []
        for labels, form, constant in self._rows(parsed):
            guards = [guard for _, _, _, guard in self._concerned(reader)]
            modulus = finest_modulus(guards, form, self._bound)
            self._journal.enter(reader, form, modulus)
            self._close(reader, form)
            answers.append((labels, modulus, self._answer(form, constant, modulus)))
        self._journal.record(self._tables.day(), reader, written(parsed), answers)
        return answers

    def would(self, reader, query):
        """Return the list of (labels, modulus) that ask would answer with."""
        return [(labels, modulus) for labels, modulus, _ in self.copy().ask(reader, query)]

    def publish(self, query):
        """Tell everyone the exact values of the rows; return the list of (labels, value)."""
        parsed = parse(query)
        trial = self.copy()
        answers = []
        for labels, form, constant in self._rows(parsed):
            trial._journal.enter(EVERYONE, form, 0)
            answers.append((labels, 0, self._answer(form, constant, 0)))
        trial._check_guards()
        self._journal = trial._journal
        self._journal.record(self._tables.day(), EVERYONE, written(parsed), answers)
        return [(labels, value) for labels, _, value in answers]

    def transcript(self, readers):
        """Return the list of (day, reader, text, answers) of what these readers were answered."""
        self._check_readers(readers)
        return [
            (day, reader, text, list(answers)) for day, reader, text, answers in self._journal.requests()
            if reader == EVERYONE or reader in readers
        ]

    def why(self, reader, query, modulus):
        """Return None if the modulus is safe, else (name, instance, group, grain, witness)."""
        self._check_readers((reader,))
        form = single_form(query, self._tables)
        checked_modulus(modulus)
        concerned = self._concerned(reader)
        found = break_of([guard for _, _, _, guard in concerned], form, modulus)
        if found is None:
            return None
        index, grain, witness = found
        name, instance, group, _ = concerned[index]
        return name, instance, group, grain, witness

    def history(self):
        """Return the list of all entries (reader, form, modulus)."""
        return list(self._journal.entries())

    def policy(self):
        """Return the policy, of which every instance is a secret of its own."""
        secrets = [
            (f"{name}#{instance:02d}", form, margin, cleared)
            for name, margin, cleared, forms in self.secrets() for instance, form in enumerate(forms)
        ]
        declared = tuple([group for group in self.groups() if len(group) > 1])
        return max(len(self._values), 1), self._bound, self._readers, declared, tuple(secrets)

    def reserve(self, reader, form):
        """Keep the exact value of the form open for the reader; return the number."""
        self._check_readers((reader,))
        checked = checked_house_form(form, len(self._values))
        if len(self._reservations) == MOST_RESERVATIONS:
            raise TooMany("reservation")
        number = self._next_reservation
        trial = self.copy()
        trial._reservations += ((number, reader, checked),)
        trial._check_guards()
        self._reservations = trial._reservations
        self._next_reservation = number + 1
        return number

    def release(self, number):
        """Close an open reservation."""
        if not is_integer(number) or number not in [opened for opened, _, _ in self._reservations]:
            raise UnknownReservation(number)
        self._reservations = tuple([kept for kept in self._reservations if kept[0] != number])

    def reservations(self):
        """Return the list of the open reservations (number, reader, form)."""
        return list(self._reservations)

    def copy(self):
        """Return an independent copy."""
        made = House(modulus=self._bound)
        made._tables = self._tables.copy()
        made._values = self._values
        made._readers = self._readers
        made._declared = self._declared
        made._secrets = self._secrets
        made._reservations = self._reservations
        made._next_reservation = self._next_reservation
        made._journal = self._journal.copy()
        return made

    def _check_readers(self, names):
        """Raise an error for the first name that no reader has."""
        for name in names:
            if name not in self._readers:
                raise UnknownReader(name)

    def _secret(self, name):
        """Return (margin, cleared, forms) of a secret."""
        if not isinstance(name, str) or name not in self._secrets:
            raise UnknownSecret(name)
        return self._secrets[name]

    def _set_secret(self, name, secret):
        """Add or replace a secret, unless a guard would not hold then."""
        trial = self.copy()
        trial._secrets = {**self._secrets, name: secret}
        trial._check_guards()
        self._secrets = trial._secrets

    def _check_guards(self):
        """Raise an error for the first guard that does not hold."""
        for name, instance, group, guard in self.guards():
            if not holds(guard):
                knowledge, form, _ = guard
                raise Exposed(name, instance, group, knowledge.grain(form))

    def _guarded_knowledge(self, group):
        """Return what the group knows, with the open reservations of its readers."""
        known = self._journal.knowledge(group)
        for _, reader, form in self._reservations:
            if reader in group:
                known = known.observe(form, 0)
        return known

    def _concerned(self, reader):
        """Return the guards, as guards() does, whose effective group contains the reader."""
        return [place for place in self.guards() if reader in place[2]]

    def _rows(self, parsed):
        """Return the rows of a parsed query that are to be answered."""
        rows = compiled(parsed, self._tables)
        if len(self._journal.entries()) + len(rows) > MOST_ENTRIES:
            raise TooMany("answer")
        return rows

    def _answer(self, form, constant, modulus):
        """Return the value as precisely as the modulus says."""
        if modulus == 1:
            return None
        value = dot(form, self._values) + constant
        return value % modulus if modulus else value

    def _close(self, reader, form):
        """Close the reservations of the reader that have just this form."""
        self._reservations = tuple([kept for kept in self._reservations if kept[1:] != (reader, form)])

    def _take_in(self, values):
        """Store the integers of new cells, and give all forms an entry for them."""
        self._values += tuple(values)
        size = len(self._values)
        self._secrets = {
            name: (margin, cleared, tuple([padded(form, size) for form in forms]))
            for name, (margin, cleared, forms) in self._secrets.items()
        }
        self._reservations = tuple([
            (number, reader, padded(form, size)) for number, reader, form in self._reservations
        ])
        self._journal.widen(size)
