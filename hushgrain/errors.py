"""The errors that the package raises, each with its fields as attributes."""

from hushgrain.things import frozen


class HushError(ValueError):
    """What every error of the package is.

    The subclasses give it a fixed message instead of their fields: Python would
    otherwise keep the very lists that were passed.
    """


class ZeroBottom(HushError):
    def __init__(self):
        super().__init__("the bottom of a fraction is 0")


class NotInside(HushError):
    def __init__(self):
        super().__init__("the other lattice has a vector that is not in the lattice")


class BadSize(HushError):
    def __init__(self, found):
        super().__init__("this size cannot be used here")
        self.found = frozen(found)


class BadForm(HushError):
    def __init__(self, form):
        super().__init__("this is no form of the size")
        self.form = frozen(form)


class BadModulus(HushError):
    def __init__(self, modulus):
        super().__init__("this is no modulus")
        self.modulus = frozen(modulus)


class BadCells(HushError):
    def __init__(self, found):
        super().__init__("these are no ascending cell numbers")
        self.found = frozen(found)


class NotKept(HushError):
    def __init__(self, index):
        super().__init__("a guard does not hold now")
        self.index = frozen(index)


class BadSchema(HushError):
    def __init__(self, part):
        super().__init__("a part of the schema is invalid")
        self.part = frozen(part)


class Duplicate(HushError):
    def __init__(self, name):
        super().__init__("this name is in use")
        self.name = frozen(name)


class UnknownTable(HushError):
    def __init__(self, name):
        super().__init__("there is no such table")
        self.name = frozen(name)


class UnknownRow(HushError):
    def __init__(self, row):
        super().__init__("there is no such row")
        self.row = frozen(row)


class UnknownColumn(HushError):
    def __init__(self, column):
        super().__init__("there is no such column")
        self.column = frozen(column)


class UnknownDay(HushError):
    def __init__(self, number):
        super().__init__("there is no such day")
        self.number = frozen(number)


class BadTags(HushError):
    def __init__(self, position):
        super().__init__("a tag is missing, of the wrong kind, or one too many")
        self.position = frozen(position)


class BadValues(HushError):
    def __init__(self, position):
        super().__init__("a value is missing, no integer, or one too many")
        self.position = frozen(position)


class TooMany(HushError):
    def __init__(self, kind):
        super().__init__("there would be too many of this kind")
        self.kind = frozen(kind)


class QuerySyntax(HushError):
    def __init__(self, position):
        super().__init__("the text is no query")
        self.position = frozen(position)


class QueryError(HushError):
    def __init__(self, reason, position):
        super().__init__("the query does not fit the tables")
        self.reason = frozen(reason)
        self.position = frozen(position)


class BadName(HushError):
    def __init__(self, name):
        super().__init__("this is no name")
        self.name = frozen(name)


class UnknownReader(HushError):
    def __init__(self, name):
        super().__init__("there is no such reader")
        self.name = frozen(name)


class BadGroup(HushError):
    def __init__(self):
        super().__init__("a group has at least two readers, each once")


class UnknownGroup(HushError):
    def __init__(self, group):
        super().__init__("there is no such declared group")
        self.group = frozen(group)


class UnknownSecret(HushError):
    def __init__(self, name):
        super().__init__("there is no such secret")
        self.name = frozen(name)


class BadMargin(HushError):
    def __init__(self, margin):
        super().__init__("this is no margin")
        self.margin = frozen(margin)


class NotSingle(HushError):
    def __init__(self):
        super().__init__("the query does not have exactly one row")


class Exposed(HushError):
    def __init__(self, name, instance, group, known):
        super().__init__("a group would know a secret too precisely")
        self.name = frozen(name)
        self.instance = frozen(instance)
        self.group = frozen(group)
        self.known = frozen(known)


class BadEntry(HushError):
    def __init__(self, index):
        super().__init__("an entry of the history is invalid")
        self.index = frozen(index)


class NotClean(HushError):
    def __init__(self, index):
        super().__init__("an entry of the history is harmful or coarse")
        self.index = frozen(index)


class BadSet(HushError):
    def __init__(self, chosen):
        super().__init__("this is no set of wishes")
        self.chosen = frozen(chosen)


class NotGrantable(HushError):
    def __init__(self, conflict):
        super().__init__("the set of wishes contains a conflict")
        self.conflict = frozen(conflict)


class Grantable(HushError):
    def __init__(self, chosen):
        super().__init__("the set of wishes is grantable")
        self.chosen = frozen(chosen)


class UnknownReservation(HushError):
    def __init__(self, number):
        super().__init__("no such reservation is open")
        self.number = frozen(number)


class UnknownWord(HushError):
    def __init__(self, word):
        super().__init__("this word names no representation")
        self.word = frozen(word)


class NoForgetting(HushError):
    def __init__(self):
        super().__init__("the matrix is no forgetting")


class BadLine(HushError):
    def __init__(self, line):
        super().__init__("this line has none of the known forms")
        self.line = frozen(line)
