"""Stores: tables whose rows are changed by transactions, with constraints, pinned versions and a keeper."""

from coverstore.bases import Base
from coverstore.errors import Held, InvalidName, NameTaken, UnknownName
from coverstore.judging import meant_version, named_version
from coverstore.keepers import Keeper
from coverstore.kinds import is_name
from coverstore.ledgers import Ledger
from coverstore.transactions import Transaction


class Store:
    """Tables with all versions of their rows, and everything that looks after them."""

    def __init__(self, bits):
        self._base = Base(bits)
        self._ledger = Ledger(self._base)
        self._keeper = Keeper(self._base)
        self._transactions = []
        self._pins = {}

    @property
    def bits(self):
        """The number of digits of each value."""
        return self._base.bits

    @property
    def version(self):
        """The newest version."""
        return self._base.version

    @property
    def oldest(self):
        """The oldest version that was not forgotten."""
        return self._base.oldest

    @property
    def keeper(self):
        """The keeper of the store, always the same one."""
        return self._keeper

    def add_table(self, name, columns, *orders):
        """Add a table that is empty at all versions up to now; orders are those after the ascending one."""
        self._ledger.add_table(name, columns, orders)

    def tables(self):
        """The list of the names of the tables, in the sequence in which they were added."""
        return self._base.tables()

    def columns(self, table):
        """The number of key columns of a table."""
        return self._base.columns(table)

    def orders(self, table):
        """The list of the orders of a table, the ascending one first."""
        return self._base.orders(table)

    def require(self, name, query):
        """Add a constraint: the answer of a query, which is empty now, must stay so."""
        self._ledger.require(name, query)

    def constraints(self):
        """The list of the names of the constraints, in the sequence in which they were added."""
        return self._ledger.constraints()

    def begin(self):
        """A new transaction."""
        # Those that have ended hold no version any more and need not be remembered.
        self._transactions = self._open_transactions()
        transaction = Transaction(self._ledger)
        self._transactions.append(transaction)
        return transaction

    def snapshot(self, version=None):
        """The source that shows a version."""
        return self._base.snapshot(version)

    def changed_keys(self, version=None):
        """The list of the (table, key) that are changed at a version, as that of a base."""
        return self._base.changed_keys(version)

    def presence_break(self, table, key, version=None):
        """The first later version at which a key is not present, or absent, as it is at this one, or None."""
        return self._base.presence_break(table, key, version)

    def clear_break(self, table, box, version=None):
        """The first later version at which a box of columns that is clear at this one is not clear, or None."""
        return self._base.clear_break(table, box, version)

    def pin(self, name, version=None):
        """Pin a version under a name, so that it is not forgotten."""
        if not is_name(name):
            raise InvalidName(name)
        if name in self._pins:
            raise NameTaken(name)
        self._pins[name] = meant_version(self._base, version)

    def unpin(self, name):
        """Take a pin away."""
        if not isinstance(name, str) or name not in self._pins:
            raise UnknownName(name)
        del self._pins[name]

    def pins(self):
        """A dict from the names of the pins to their versions, sorted by names."""
        return {name: self._pins[name] for name in sorted(list(self._pins))}

    def forget(self, version):
        """Drop what happened before a version, if no open transaction and no pin holds an earlier one."""
        named = named_version(self._base, version)
        held = list(self._pins.values()) + [transaction.version for transaction in self._open_transactions()]
        earliest = min(held, default=named)
        if earliest < named:
            raise Held(earliest)
        self._base.forget(named)

    def _open_transactions(self):
        return [transaction for transaction in self._transactions if transaction.is_open]
