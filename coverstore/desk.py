"""The desk: commands, strings, to a store, and what it answers in strings."""

from coverstore.commands import EMPTY_POINT, read_command
from coverstore.errors import InvalidCommand, InvalidPoint, UnknownTransaction
from coverstore.numerals import text_of_values
from coverstore.queries import Query
from coverstore.reasons import why, why_not
from coverstore.stores import Store

FINE = "ok"
NOTHING = "-"


def text_of_points(points):
    """The texts of points, joined by spaces."""
    texts = [text_of_values(point) if len(point) > 0 else EMPTY_POINT for point in points]
    return " ".join(texts) if len(texts) > 0 else NOTHING


def say_table(store, name, columns):
    """Add a table without further orders."""
    store.add_table(name, columns)
    return FINE


def say_require(store, name, query):
    """Add a constraint."""
    store.require(name, query)
    return FINE


def say_keep(store, name, query):
    """Keep a query."""
    store.keeper.keep(name, query)
    return FINE


def say_forget(store, version):
    """Forget what happened before a version."""
    store.forget(version)
    return FINE


def say_insert(_, transaction, table, key, payload):
    """Insert a row."""
    transaction.add_row(table, key, payload)
    return FINE


def say_update(_, transaction, table, key, payload):
    """Change the payload of a row."""
    transaction.change_row(table, key, payload)
    return FINE


def say_delete(_, transaction, table, key):
    """Delete a row."""
    transaction.drop_row(table, key)
    return FINE


def say_abandon(_, transaction):
    """Abandon a transaction."""
    transaction.abandon()
    return FINE


def say_ask(_, transaction, query):
    """Tell the answer of a query in a transaction."""
    return text_of_points(transaction.ask(query))


def say_told(store, name, version=None):
    """Tell the answer of a kept query."""
    return text_of_points(store.keeper.answer(name, version))


def say_commit(_, transaction):
    """Commit a transaction, and tell the version."""
    return str(transaction.commit())


def say_version(store):
    """Tell the newest version."""
    return str(store.version)


def say_why(store, name, point):
    """Tell why a point is in the answer of a kept query, or why not."""
    keeper = store.keeper
    # The closing box does not change, so that what is no point of it raises its error before anything changes.
    if not keeper.kept_paper(name).closing.holds(point):
        raise InvalidPoint(point)
    keeper.catch_up(name)
    paper = keeper.kept_paper(name)
    if point not in paper.points():
        line, position = why_not(paper, point)
        return f"not {line} {position}"
    told = [f"{position}:{text_of_values(key)}" for position, key in why(paper, point)]
    return " ".join(told) if len(told) > 0 else NOTHING


ACTIONS = {
    "table": say_table,
    "require": say_require,
    "keep": say_keep,
    "forget": say_forget,
    "insert": say_insert,
    "update": say_update,
    "delete": say_delete,
    "abandon": say_abandon,
    "ask": say_ask,
    "told": say_told,
    "commit": say_commit,
    "version": say_version,
    "why": say_why,
}


class Desk:
    """A new store, and the transactions of it that were begun here, numbered from 1."""

    def __init__(self, bits):
        self._store = Store(bits)
        self._transactions = []

    @property
    def store(self):
        """The store."""
        return self._store

    def say(self, command):
        """Perform a command, and return what it tells."""
        told = read_command(command)
        if told is None:
            raise InvalidCommand(command)
        word, parts = told
        if word == "begin":
            return self._say_begin()
        values = [self._meant(kind, value) for kind, value in parts]
        action = ACTIONS[word]
        return action(self._store, *values)

    def _say_begin(self):
        self._transactions.append(self._store.begin())
        return str(len(self._transactions))

    def _meant(self, kind, value):
        if kind == "query":
            return Query.read(value)
        if kind != "transaction":
            return value
        if not 1 <= value <= len(self._transactions):
            raise UnknownTransaction(value)
        return self._transactions[value - 1]
