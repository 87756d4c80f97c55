"""Names, words and tags; each is asked of any object."""

from hushgrain.things import is_integer

LETTERS = "abcdefghijklmnopqrstuvwxyz"
DIGITS = "0123456789"
NAME_CHARACTERS = "abcdefghijklmnopqrstuvwxyz_0123456789"
RESERVED = (
    "select", "sum", "count", "from", "at", "day", "as", "where", "by", "and", "or", "not", "in",
)
LONGEST = 12
LARGEST_TAG = 999999


def is_name(thing):
    """Tell whether the thing is a name."""
    if not isinstance(thing, str) or not 1 <= len(thing) <= LONGEST or thing in RESERVED:
        return False
    return thing[0] in LETTERS and all([char in NAME_CHARACTERS for char in thing])


def is_word(thing):
    """Tell whether the thing is a word."""
    if not isinstance(thing, str) or len(thing) > LONGEST:
        return False
    return all([" " <= char <= "~" and char != '"' for char in thing])


def is_tag(thing, kind):
    """Tell whether the thing is a tag of this kind, "int" or "word"."""
    if kind == "word":
        return is_word(thing)
    return is_integer(thing) and -LARGEST_TAG <= thing <= LARGEST_TAG
