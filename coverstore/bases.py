"""Bases: tables whose rows are changed by commits, and the versions that the commits make."""

from coverstore.errors import InvalidColumns, InvalidName, InvalidOrder, NameTaken, NoSuchRow, NotClear
from coverstore.errors import TooMany, TooOld, UnknownTable
from coverstore.judging import check_columns_box, check_key, meant_version, named_version
from coverstore.kinds import is_int, is_name, is_place
from coverstore.ranges import bounds, check_bits
from coverstore.sources import Snapshot
from coverstore.tables import Table
from coverstore.writes import check_writes, left_by

MAX_COLUMNS = 4
MAX_FURTHER_ORDERS = 2


def is_order(value, columns):
    """Whether a value is a tuple that contains each column once."""
    if not isinstance(value, tuple) or not all([is_place(column, columns) for column in value]):
        return False
    return sorted(value) == list(range(columns))


def all_orders(columns, further):
    """The ascending order and the further ones; raise InvalidOrder for the first one that cannot be added."""
    orders = [tuple(range(columns))]
    for position, order in enumerate(further[:MAX_FURTHER_ORDERS]):
        if not is_order(order, columns) or order in orders:
            raise InvalidOrder(position)
        orders.append(order)
    if len(further) > MAX_FURTHER_ORDERS:
        raise InvalidOrder(MAX_FURTHER_ORDERS)
    return orders


def limits_of(box):
    """The least and the greatest value of each range of a box."""
    return [bounds(part, box.bits) for part in box.ranges]


class Base:
    """Tables with all versions of their rows, from the oldest one that was not forgotten."""

    MAX_TABLES = 8
    MAX_PAYLOAD = 1000000000

    def __init__(self, bits):
        check_bits(bits)
        self._bits = bits
        self._version = 0
        self._oldest = 0
        self._tables = {}

    @property
    def bits(self):
        """The number of digits of each value."""
        return self._bits

    @property
    def version(self):
        """The newest version."""
        return self._version

    @property
    def oldest(self):
        """The oldest version that was not forgotten."""
        return self._oldest

    def add_table(self, name, columns, *orders):
        """Add a table that is empty at all versions up to now; orders are those after the ascending one."""
        self._tables[name] = Table(columns, self.orders_to_add(name, columns, orders))

    def orders_to_add(self, name, columns, further):
        """The list of all orders of a table that can be added; raise the error of one that cannot."""
        if not is_name(name):
            raise InvalidName(name)
        if name in self._tables:
            raise NameTaken(name)
        if not is_int(columns) or not 1 <= columns <= MAX_COLUMNS:
            raise InvalidColumns(columns)
        orders = all_orders(columns, further)
        if len(self._tables) == Base.MAX_TABLES:
            raise TooMany("tables", Base.MAX_TABLES)
        return orders

    def tables(self):
        """The list of the names of the tables, in the sequence in which they were added."""
        return list(self._tables)

    def columns(self, table):
        """The number of key columns of a table."""
        return self._table(table).width

    def orders(self, table):
        """The list of the orders of a table, the ascending one first."""
        return list(self._table(table).arrangements)

    def commit(self, writes):
        """Perform writes, one after another, and return the newest version; if one fails, none is performed."""
        check_writes(self, writes)
        left = left_by(self, writes)
        if len(writes) > 0:
            self._version += 1
        for (table, key), payload in left.items():
            self._tables[table].set_from(self._version, key, payload)
        return self._version

    def payload(self, table, key, version=None):
        """The payload of a key at a version, or None if it is absent."""
        check_key(self, table, key)
        return self._tables[table].payload_at(key, meant_version(self, version))

    def rows(self, table, version=None):
        """The sorted list of all (key, payload) at a version."""
        there = self._table(table)
        return there.rows_at(meant_version(self, version))

    def keys_in(self, table, box, version=None):
        """The sorted list of the keys in a box of columns that are present at a version."""
        check_columns_box(self, table, box)
        return self._tables[table].keys_at(limits_of(box), meant_version(self, version))

    def changed_keys(self, version=None):
        """The list of the (table, key) that are changed at a version, by tables, then by keys."""
        meant = meant_version(self, version)
        if meant == self._oldest and meant > 0:
            raise TooOld(self._oldest)
        return [(name, key) for name in self._tables for key in self._tables[name].keys_changed_at(meant)]

    def presence_break(self, table, key, version=None):
        """The first later version at which a key is not present, or absent, as it is at this one, or None."""
        check_key(self, table, key)
        return self._tables[table].presence_break(key, meant_version(self, version))

    def payload_break(self, table, key, version=None):
        """The first later version at which a key has not the payload that it has at this one, or None."""
        check_key(self, table, key)
        meant = meant_version(self, version)
        if self._tables[table].payload_at(key, meant) is None:
            raise NoSuchRow(table, key)
        return self._tables[table].payload_break(key, meant)

    def clear_break(self, table, box, version=None):
        """The first later version at which a box of columns that is clear at this one is not clear, or None."""
        keys = self.keys_in(table, box, version)
        if len(keys) > 0:
            raise NotClear(keys[0])
        return self._tables[table].clear_break(limits_of(box), meant_version(self, version))

    def forget(self, version):
        """Drop what happened before a version, which becomes the oldest one."""
        self._oldest = named_version(self, version)
        for name in self._tables:
            self._tables[name].forget_before(self._oldest)

    def snapshot(self, version=None):
        """The source that shows a version."""
        return Snapshot(self, version)

    def _table(self, name):
        if not isinstance(name, str) or name not in self._tables:
            raise UnknownTable(name)
        return self._tables[name]
