"""All errors of the package."""


class CoverError(ValueError):
    """A value that is not of the kind that is asked for."""


class InvalidBits(CoverError):
    """Not an integer from 1 to 10."""

    def __init__(self, value):
        self.value = value


class InvalidValue(CoverError):
    """Not a value for these bits, or not one that may stand here."""

    def __init__(self, value):
        self.value = value


class InvalidRange(CoverError):
    """Not a range for these bits."""

    def __init__(self, value):
        self.value = value


class InvalidBox(CoverError):
    """Not the ranges of a box."""

    def __init__(self, position):
        self.position = position


class InvalidPlace(CoverError):
    """Not a place, a position or a number that there is."""

    def __init__(self, value):
        self.value = value


class InvalidCount(CoverError):
    """Not a count, or not one that may stand here."""

    def __init__(self, value):
        self.value = value


class InvalidName(CoverError):
    """Not a name."""

    def __init__(self, value):
        self.value = value


class InvalidColumns(CoverError):
    """Not a number of key columns."""

    def __init__(self, value):
        self.value = value


class InvalidOrder(CoverError):
    """Not an order of the columns, or not a new one."""

    def __init__(self, position):
        self.position = position


class InvalidKey(CoverError):
    """Not a key of the table."""

    def __init__(self, value):
        self.value = value


class InvalidPayload(CoverError):
    """Not a payload."""

    def __init__(self, value):
        self.value = value


class InvalidWrite(CoverError):
    """Not a write, or not a list of writes."""

    def __init__(self, position):
        self.position = position


class InvalidQuery(CoverError):
    """Not the parts of a query."""

    def __init__(self, problem, position):
        self.problem = problem
        self.position = position


class InvalidText(CoverError):
    """Not a text of this kind."""

    def __init__(self, value):
        self.value = value


class InvalidPoint(CoverError):
    """Not a point."""

    def __init__(self, value):
        self.value = value


class InvalidPaper(CoverError):
    """Not the lines of a paper."""

    def __init__(self, position):
        self.position = position


class InvalidLimit(CoverError):
    """Not a limit of lines."""

    def __init__(self, value):
        self.value = value


class InvalidGroups(CoverError):
    """Not the parts of a grouping."""

    def __init__(self, problem):
        self.problem = problem


class InvalidPage(CoverError):
    """Not a page of a disk."""

    def __init__(self, value):
        self.value = value


class InvalidMessage(CoverError):
    """Not a message or a request."""

    def __init__(self, value):
        self.value = value


class InvalidCommand(CoverError):
    """Not a command of a desk."""

    def __init__(self, value):
        self.value = value


class UnknownTable(LookupError):
    """Not the name of a table."""

    def __init__(self, value):
        self.value = value


class UnknownVersion(LookupError):
    """Not a version that there is."""

    def __init__(self, value):
        self.value = value


class TooOld(LookupError):
    """The version was forgotten; the least one that is left is told."""

    def __init__(self, least):
        self.least = least


class UnknownName(LookupError):
    """Not a name that is in use."""

    def __init__(self, value):
        self.value = value


class UnknownTransaction(LookupError):
    """Not the number of a transaction."""

    def __init__(self, value):
        self.value = value


class NameTaken(RuntimeError):
    """The name is in use."""

    def __init__(self, name):
        self.name = name


class KeyTaken(RuntimeError):
    """The key is present."""

    def __init__(self, table, key):
        self.table = table
        self.key = key


class NoSuchRow(RuntimeError):
    """The key is absent."""

    def __init__(self, table, key):
        self.table = table
        self.key = key


class NotClear(RuntimeError):
    """The box contains a present key."""

    def __init__(self, key):
        self.key = key


class Unlike(RuntimeError):
    """Bits or lengths differ."""


class NoHalf(RuntimeError):
    """A full range has no halves."""

    def __init__(self, place):
        self.place = place


class NotJoined(RuntimeError):
    """The boxes cannot be joined at this place."""

    def __init__(self, place):
        self.place = place


class NotAPoint(RuntimeError):
    """The box is not a point box."""


class WrongColumns(RuntimeError):
    """The table has another number of columns than the literal has terms."""

    def __init__(self, position):
        self.position = position


class Holds(RuntimeError):
    """The comparison holds at the point."""

    def __init__(self, position):
        self.position = position


class WrongLine(RuntimeError):
    """A fact of the line does not hold."""

    def __init__(self, line):
        self.line = line


class NotAnswer(RuntimeError):
    """Not a point of the answer."""

    def __init__(self, point):
        self.point = point


class IsAnswer(RuntimeError):
    """A point of the answer."""

    def __init__(self, point):
        self.point = point


class NotEmpty(RuntimeError):
    """The answer has a point."""

    def __init__(self, point):
        self.point = point


class Ended(RuntimeError):
    """The transaction is not open."""


class Changed(RuntimeError):
    """An act would have another outcome now."""

    def __init__(self, act, item):
        self.act = act
        self.item = item


class Violated(RuntimeError):
    """The constraint would be violated."""

    def __init__(self, name, point):
        self.name = name
        self.point = point


class Held(RuntimeError):
    """An earlier version is held."""

    def __init__(self, earliest):
        self.earliest = earliest


class Crashed(RuntimeError):
    """The disk has crashed."""


class DiskInUse(RuntimeError):
    """The disk has pages."""


class NoStore(RuntimeError):
    """The disk does not begin with the record of a store."""


class Needs(RuntimeError):
    """The replica must know more before it can answer."""

    def __init__(self, request):
        self.request = request


class TooMany(ArithmeticError):
    """More of this kind than the limit."""

    def __init__(self, kind, limit):
        self.kind = kind
        self.limit = limit


class TooLarge(ArithmeticError):
    """A space with too many points."""

    def __init__(self, count):
        self.count = count
