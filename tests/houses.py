"""Houses for several tests: what a house shows of itself, and scripts of calls that can be played again."""

from hushgrain.errors import HushError, UnknownTable
from hushgrain.house import House

READERS = ("ann", "bob", "cy", "dee")
TABLES = ("staff", "units")


def sample(margin=1, modulus=5040, readers=("ann",)):
    """The house of the example: two rows with 100 and 140, and the secret that is the first one."""
    house = House(modulus=modulus)
    house.add_table("staff", (("dept", "word"),), ("pay",))
    house.add_row("staff", ("ops",), (100,))
    house.add_row("staff", ("sales",), (140,))
    for reader in readers:
        house.add_reader(reader)
    house.add_secret("one", "select sum(pay) from staff where id = 1", margin)
    return house


def state(house):
    """Everything that a house shows of itself, as a text."""
    tables = house.tables()
    shown = [tables.cells(), tables.day()]
    for name in ("staff", "units", "t", "u"):
        for day in range(tables.day() + 1):
            try:
                shown.append((name, day, tables.schema(name), tables.rows(name, day)))
            except UnknownTable:
                shown.append((name, day))
    shown.append(house.world())
    shown.append(house.readers())
    shown.append(house.groups())
    shown.append(house.secrets())
    for name, instance, group, (knowledge, form, margin) in house.guards():
        shown.append((name, instance, group, knowledge.size(), knowledge.observations(), form, margin))
    shown.append(house.history())
    shown.append(house.transcript(house.readers()))
    shown.append([house.transcript((reader,)) for reader in house.readers()])
    shown.append([house.knowledge((reader,)).observations() for reader in house.readers()])
    shown.append(house.reservations())
    shown.append(house.policy())
    return repr(shown)


def random_sum(chance):
    return chance.choice((
        "pay", "debt", "pay + debt", "pay - debt", "2 * pay", "pay - 3 * debt", "6 * pay + 4 * debt", "pay * age",
        "7 - pay", "12", "5 * debt + age", "-pay", "(2 + age) * debt - pay", "s.id * pay",
    ))


def random_query(chance):
    results = ", ".join(
        "count" if chance.randrange(5) == 0 else f"sum({random_sum(chance)})"
        for _ in range(chance.choice((1, 1, 1, 2)))
    )
    text = f"select {results} from staff{chance.choice(('', '', '', ' at day 0', ' at day 1'))} as s"
    if chance.randrange(6) == 0:
        text += f", units{chance.choice(('', ' at day 0'))}"
    text += chance.choice((
        "", "", " where s.id = 1", " where s.id = 2", " where s.id != 2", " where age > 0", ' where dept = "ops"',
        " where s.id > 9", " where pay = 1",
    ))
    return text + chance.choice(("", "", "", " by dept", " by s.id", " by age, dept"))


def single_query(chance):
    where = chance.choice(("", " where s.id = 1", " where s.id = 2", " where age > 0", ' where dept = "ops"'))
    return f"select sum({random_sum(chance)}) from staff as s{where}"


def random_form(chance, size):
    return tuple(chance.choice((0, 0, 1, 1, -1, 2, 6)) for _ in range(size))


def random_call(chance, cells):
    """A call (method, arguments) of a house with about this many cells; VALUES stand for later ones."""
    name = chance.choice(("x", "y", "z"))
    reader = chance.choice(READERS[:2] * 3 + READERS + ("zed",))
    several = tuple(chance.sample(READERS, chance.randint(2, 3)))
    row, column = chance.randint(1, 3), chance.choice(("pay", "debt"))
    margin = chance.choice((1, 2, 3, 4, 6, 10, 12, 60, 5040))
    return chance.choice((
        ("add_row", ("staff", (chance.choice(("ops", "hr")), chance.randint(-2, 3)), 2)),
        ("change", ("staff", row, column, 1)),
        ("change", ("staff", row, column, 1)),
        ("shift", ("staff", row, column, chance.randint(-9, 9))),
        ("set_tag", ("staff", row, "age", chance.randint(-3, 3))),
        ("remove_row", ("staff", row + 1)),
        ("next_day", ()),
        ("add_reader", (reader,)),
        ("add_group", (several,)),
        ("drop_group", (several,)),
        ("add_secret", (name, single_query(chance), margin, tuple(chance.sample(READERS, chance.randint(0, 2))))),
        ("add_secret", (name, single_query(chance), margin)),
        ("drop_secret", (name,)),
        ("clear", (name, reader)),
        ("unclear", (name, reader)),
        ("reserve", (reader, random_form(chance, cells))),
        ("release", (chance.randrange(3),)),
        ("publish", (single_query(chance),)),
        ("publish", (random_query(chance),)),
    ) + (("ask", (reader, random_query(chance))),) * 8 + (("ask", (reader, single_query(chance))),) * 8)


def script(chance, times):
    """Calls that make a house with tables, rows, readers and secrets, and more calls."""
    calls = [
        ("add_table", ("staff", (("dept", "word"), ("age", "int")), ("pay", "debt"))),
        ("add_table", ("units", (("name", "word"),), ("cost",))),
        ("add_row", ("staff", ("ops", 3), 2)),
        ("add_row", ("staff", ("hr", -2), 2)),
        ("add_row", ("units", ("ops",), 1)),
        ("next_day", ()),
    ]
    calls += [("add_reader", (reader,)) for reader in READERS[:chance.choice((2, 3, 3, 4))]]
    calls += [("add_group", (tuple(chance.sample(READERS, 2)),)) for _ in range(2)]
    for name in ("x", "y"):
        cleared = tuple(chance.sample(READERS, chance.choice((0, 0, 1))))
        calls.append(("add_secret", (name, single_query(chance), chance.choice((1, 2, 6, 10, 60)), cleared)))
    cells = 5
    for _ in range(times):
        calls.append(random_call(chance, cells))
        cells = min(12, cells + {"add_row": 2, "change": 1}.get(calls[-1][0], 0))
    return calls


def outcome(call, arguments):
    """What a call returns or raises."""
    try:
        return "returns", call(*arguments)
    except HushError as error:
        return "raises", error.__class__.__name__, vars(error)


def played(calls, values, modulus=5040):
    """Play the calls with these integers for the cells, in order; return the house and all outcomes."""
    house = House(modulus=modulus)
    return house, [play(house, call, values) for call in calls]


def play(house, call, values):
    """Play one call; a cell that it makes gets the integer of its number."""
    method, arguments = call
    later = (tuple(values) + (0,) * 14)[len(house.world()):]
    if method == "add_row":
        arguments = arguments[:2] + (later[:arguments[2]],)
    elif method == "change":
        arguments = arguments[:3] + (later[0],)
    return outcome(getattr(house, method), arguments)


def random_values(chance):
    return tuple(chance.randint(-10 ** chance.randint(1, 30), 10 ** chance.randint(1, 30)) for _ in range(12))
