"""What a server answered, and what its readers know from it."""

from hushgrain.forms import padded
from hushgrain.knowledge import Knowledge

# Stands for the reader where an answer was published.
EVERYONE = ""


class Journal:
    """The entries, one for every row that was answered, and the requests, in their order."""

    def __init__(self):
        self._size = 1
        self._entries = ()
        self._requests = ()
        # What sets of readers knew when they were last asked for, and from how many entries.
        self._learned = {}

    def entries(self):
        """Return the tuple of the entries (reader, form, modulus)."""
        return self._entries

    def requests(self):
        """Return the tuple of the requests (day, reader, text, answers), answers being tuples."""
        return self._requests

    def enter(self, reader, form, modulus):
        """Make an entry."""
        self._entries += ((reader, form, modulus),)

    def record(self, day, reader, text, answers):
        """Keep a request with its answers."""
        self._requests += ((day, reader, text, tuple(answers)),)

    def widen(self, size):
        """Give all forms this size."""
        self._size = size
        self._entries = tuple([
            (reader, padded(form, size), modulus) for reader, form, modulus in self._entries
        ])
        self._learned = {}

    def knowledge(self, readers):
        """Return what these readers know together; they are an ascending tuple."""
        known, seen = self._learned.get(readers, (Knowledge(self._size), 0))
        for reader, form, modulus in self._entries[seen:]:
            if reader == EVERYONE or reader in readers:
                known = known.observe(form, modulus)
        self._learned[readers] = (known, len(self._entries))
        return known

    def copy(self):
        """Return an independent copy."""
        made = Journal()
        made._size = self._size
        made._entries = self._entries
        made._requests = self._requests
        made._learned = {readers: self._learned[readers] for readers in self._learned}
        return made
