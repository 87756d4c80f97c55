"""A house that is run by lines of text."""

from hushgrain.compiler import single_form
from hushgrain.errors import BadLine, UnknownReader
from hushgrain.house import House
from hushgrain.journal import EVERYONE
from hushgrain.lines import read_words, written_list

DONE = "done"


def tell_table(house, name, tags, closed):
    house.add_table(name, tags, closed)
    return DONE


def tell_row(house, table, tags, values):
    return str(house.add_row(table, tags, values))


def tell_remove(house, table, row):
    house.remove_row(table, row)
    return DONE


def tell_tag(house, table, row, column, tag):
    house.set_tag(table, row, column, tag)
    return DONE


def tell_shift(house, table, row, column, amount):
    house.shift(table, row, column, amount)
    return DONE


def tell_change(house, table, row, column, value):
    house.change(table, row, column, value)
    return DONE


def tell_day(house):
    return str(house.next_day())


def tell_reader(house, name):
    house.add_reader(name)
    return DONE


def tell_group(house, readers):
    house.add_group(readers)
    return DONE


def tell_ungroup(house, readers):
    house.drop_group(readers)
    return DONE


def tell_secret(house, name, margin, cleared, query):
    house.add_secret(name, query, margin, cleared)
    return DONE


def tell_unsecret(house, name):
    house.drop_secret(name)
    return DONE


def tell_clear(house, name, reader):
    house.clear(name, reader)
    return DONE


def tell_unclear(house, name, reader):
    house.unclear(name, reader)
    return DONE


def tell_reserve(house, reader, query):
    if reader not in house.readers():
        raise UnknownReader(reader)
    return str(house.reserve(reader, single_form(query, house.tables())))


def tell_release(house, number):
    house.release(number)
    return DONE


def tell_ask(house, reader, query):
    return _joined("; ", [_answer_text(answer) for answer in house.ask(reader, query)])


def tell_publish(house, query):
    return _joined("; ", [_answer_text((labels, 0, value)) for labels, value in house.publish(query)])


def tell_would(house, reader, query):
    rows = house.would(reader, query)
    return _joined("; ", [_labelled(labels, _precision_text(modulus)) for labels, modulus in rows])


def tell_transcript(house, readers):
    shown = []
    for day, reader, _, answers in house.transcript(readers):
        name = "all" if reader == EVERYONE else reader
        rows = _joined(" | ", [_answer_text(answer) for answer in answers])
        shown.append(f"{day} {name} {rows}")
    return _joined("; ", shown)


def tell_grain(house, readers, query):
    known = house.knowledge(readers)
    return str(known.grain(single_form(query, house.tables())))


def tell_why(house, reader, modulus, query):
    found = house.why(reader, query, modulus)
    if found is None:
        return "safe"
    name, instance, group, grain, _ = found
    return f"{name} {instance} {written_list(group)} {grain}"


def tell_kept(house):
    return _joined("; ", [
        f"{name} {instance} {written_list(group)} {known.grain(form)}"
        for name, instance, group, (known, form, _) in house.guards()
    ])


# What carries a line out, by its first word.
ACTIONS = {
    "table": tell_table,
    "row": tell_row,
    "remove": tell_remove,
    "tag": tell_tag,
    "shift": tell_shift,
    "change": tell_change,
    "day": tell_day,
    "reader": tell_reader,
    "group": tell_group,
    "ungroup": tell_ungroup,
    "secret": tell_secret,
    "unsecret": tell_unsecret,
    "clear": tell_clear,
    "unclear": tell_unclear,
    "reserve": tell_reserve,
    "release": tell_release,
    "ask": tell_ask,
    "publish": tell_publish,
    "would": tell_would,
    "transcript": tell_transcript,
    "grain": tell_grain,
    "why": tell_why,
    "kept": tell_kept,
}

# The kinds of the other words.
FORMS = {
    "table": ("name", "columns", "names"),
    "row": ("name", "tags", "integers"),
    "remove": ("name", "integer"),
    "tag": ("name", "integer", "name", "tag"),
    "shift": ("name", "integer", "name", "integer"),
    "change": ("name", "integer", "name", "integer"),
    "day": (),
    "reader": ("name",),
    "group": ("names",),
    "ungroup": ("names",),
    "secret": ("name", "integer", "names", "query"),
    "unsecret": ("name",),
    "clear": ("name", "name"),
    "unclear": ("name", "name"),
    "reserve": ("name", "query"),
    "release": ("integer",),
    "ask": ("name", "query"),
    "publish": ("query",),
    "would": ("name", "query"),
    "transcript": ("names",),
    "grain": ("names", "query"),
    "why": ("name", "integer", "query"),
    "kept": (),
}


class Desk:
    """A house, and what its owner and its readers say about it in lines."""

    def __init__(self, *, modulus=5040):
        self._house = House(modulus=modulus)

    def tell(self, line):
        """Carry out the line; return the answer."""
        word = line.partition(" ")[0]
        if word not in ACTIONS:
            raise BadLine(line)
        values = read_words(line, FORMS[word])
        if values is None:
            raise BadLine(line)
        action = ACTIONS[word]
        return action(self._house, *values)

    def house(self):
        """Return a copy of the house."""
        return self._house.copy()


def _joined(between, texts):
    """Return the texts in one line, or that there are none."""
    return between.join(texts) if texts else "none"


def _labelled(labels, text):
    """Return the text behind the labels."""
    shown = ",".join([str(label) for label in labels])
    return f"{shown}:{text}"


def _answer_text(answer):
    """Return the text of (labels, modulus, value)."""
    labels, modulus, value = answer
    if modulus == 1:
        return _labelled(labels, "hidden")
    return _labelled(labels, f"{value} mod {modulus}" if modulus else str(value))


def _precision_text(modulus):
    """Return the text of a modulus alone."""
    if modulus == 1:
        return "hidden"
    return f"mod {modulus}" if modulus else "exact"
