"""The tokens of a query."""

from hushgrain.errors import QuerySyntax
from hushgrain.names import DIGITS, LETTERS, LONGEST, NAME_CHARACTERS, RESERVED, is_word

LONG_SYMBOLS = ("!=", "<=", ">=")
SHORT_SYMBOLS = "(),.+-*=<>"
MOST_DIGITS = 6


def tokens(text):
    """Return the list of the tokens (kind, value, position)."""
    found = []
    position = 0
    while position < len(text):
        if text[position] == " ":
            position += 1
        else:
            kind, value, end = _token(text, position)
            found.append((kind, value, position))
            position = end
    return found


def _token(text, start):
    """Return (kind, value, end) of the token that begins here."""
    char = text[start]
    if char in LETTERS:
        return _letters(text, start)
    if char in DIGITS:
        return _digits(text, start)
    if char == '"':
        return _word(text, start)
    if text[start:start + 2] in LONG_SYMBOLS:
        return "symbol", text[start:start + 2], start + 2
    if char in SHORT_SYMBOLS:
        return "symbol", char, start + 1
    raise QuerySyntax(start)


def _letters(text, start):
    """Return (kind, value, end) of the name or reserved word that begins here."""
    end = _run_end(text, start, NAME_CHARACTERS)
    value = text[start:end]
    if len(value) > LONGEST:
        raise QuerySyntax(start)
    kind = "reserved" if value in RESERVED else "name"
    return kind, value, end


def _digits(text, start):
    """Return (kind, value, end) of the integer that begins here."""
    end = _run_end(text, start, DIGITS)
    count = end - start
    if count > MOST_DIGITS or (count > 1 and text[start] == "0"):
        raise QuerySyntax(start)
    return "integer", int(text[start:end]), end


def _word(text, start):
    """Return (kind, value, end) of the word in quotes that begins here."""
    end = text.find('"', start + 1)
    if end < 0 or not is_word(text[start + 1:end]):
        raise QuerySyntax(start)
    return "word", text[start + 1:end], end + 1


def _run_end(text, start, characters):
    """Return where the run of these characters ends."""
    end = start
    while end < len(text) and text[end] in characters:
        end += 1
    return end
