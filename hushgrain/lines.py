"""The words of a line: names, numbers, lists. Each is read as its value, or as None if it is none."""

from hushgrain.names import DIGITS, is_name

MOST_DIGITS = 30
EMPTY_LIST = "-"
COLUMN_KINDS = ("int", "word")


def written_list(words):
    """Return the text of a list."""
    return ",".join([str(word) for word in words]) if words else EMPTY_LIST


def read_name(word):
    """Return the name."""
    return word if is_name(word) else None


def read_integer(word):
    """Return the integer, if nothing in the word could be left out and it is not too long."""
    digits = word[1:] if word.startswith("-") else word
    if not 1 <= len(digits) <= MOST_DIGITS or not all([char in DIGITS for char in digits]):
        return None
    if digits.startswith("0") and word != "0":
        return None
    return int(word)


def read_tag(word):
    """Return the tag: an integer, or a name for a word."""
    number = read_integer(word)
    return read_name(word) if number is None else number


def read_column(word):
    """Return the open column as a tuple (name, kind)."""
    name, _, kind = word.partition(":")
    return (name, kind) if is_name(name) and kind in COLUMN_KINDS else None


def read_query(word):
    """Return the text of the query; whether it is one is seen later."""
    return word if word else None


def read_list(word, read):
    """Return the list, each part of which is read by `read`."""
    parts = [] if word == EMPTY_LIST else [read(part) for part in word.split(",")]
    return None if None in parts else parts


def read_names(word):
    """Return the list of names."""
    return read_list(word, read_name)


def read_integers(word):
    """Return the list of integers."""
    return read_list(word, read_integer)


def read_tags(word):
    """Return the list of tags."""
    return read_list(word, read_tag)


def read_columns(word):
    """Return the list of open columns."""
    return read_list(word, read_column)


READERS = {
    "name": read_name,
    "integer": read_integer,
    "tag": read_tag,
    "query": read_query,
    "names": read_names,
    "integers": read_integers,
    "tags": read_tags,
    "columns": read_columns,
}


def read_words(line, kinds):
    """Return the values of the words behind the first one, None if they are not of these kinds.

    A query comes last and goes to the end of the line, with all its spaces.
    """
    if "query" in kinds:
        words = line.split(" ", len(kinds))
    else:
        words = line.split(" ")
    if len(words) != len(kinds) + 1:
        return None
    values = []
    for kind, word in zip(kinds, words[1:]):
        read = READERS[kind]
        values.append(read(word))
    return None if None in values else values
