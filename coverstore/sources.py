"""Sources: what shows the rows of tables at one moment."""

from coverstore.errors import InvalidPlace, KeyTaken
from coverstore.judging import check_columns_box, check_key, check_not_forgotten, meant_version
from coverstore.kinds import is_place
from coverstore.rows import Rows


class Source:
    """The base class of all sources; a class below it says in _rows_of which rows it shows."""

    def __init__(self, shape):
        self._shape = shape
        self._bits = shape.bits

    @property
    def bits(self):
        """The number of digits of each value."""
        return self._bits

    def tables(self):
        """The list of the names of the tables."""
        return self._shape.tables()

    def columns(self, table):
        """The number of key columns of a table."""
        return self._shape.columns(table)

    def orders(self, table):
        """The list of the orders of a table, the ascending one first."""
        return self._shape.orders(table)

    def payload(self, table, key):
        """The payload of a key, or None if it is absent."""
        check_key(self, table, key)
        return self._rows_of(table).payload_of(key)

    def keys_in(self, table, box):
        """The sorted list of the present keys in a box of columns."""
        check_columns_box(self, table, box)
        return self._rows_of(table).keys_within(box)

    def is_clear(self, table, box):
        """Whether no present key is in a box of columns."""
        return self.keys_in(table, box) == []

    def gap(self, table, key, order=0):
        """The gap around an absent key, for the order with this number."""
        check_key(self, table, key)
        if not is_place(order, len(self.orders(table))):
            raise InvalidPlace(order)
        if self.payload(table, key) is not None:
            raise KeyTaken(table, key)
        return self._rows_of(table).gap_around(key, order)

    def gaps(self, table, key):
        """The list of the gaps around an absent key, for all orders."""
        return [self.gap(table, key, order) for order in range(len(self.orders(table)))]

    def _rows_of(self, table):
        raise NotImplementedError("each source has its own rows")


class Snapshot(Source):
    """The rows of a base at one version. The methods of every source stand in each class of sources itself."""

    def __init__(self, base, version=None):
        super().__init__(base)
        self._base = base
        self._version = meant_version(base, version)
        self._seen = {}

    @property
    def version(self):
        """The version that is shown."""
        return self._version

    @property
    def bits(self):
        """The number of digits of each value."""
        return self._bits

    def tables(self):
        """The list of the names of the tables, also of those that were added later."""
        return super().tables()

    def columns(self, table):
        """The number of key columns of a table."""
        return super().columns(table)

    def orders(self, table):
        """The list of the orders of a table, the ascending one first."""
        return super().orders(table)

    def payload(self, table, key):
        """The payload of a key at this version, or None if it is absent."""
        return super().payload(table, key)

    def keys_in(self, table, box):
        """The sorted list of the keys in a box of columns that are present at this version."""
        return super().keys_in(table, box)

    def is_clear(self, table, box):
        """Whether no key in a box of columns is present at this version."""
        return super().is_clear(table, box)

    def gap(self, table, key, order=0):
        """The gap around a key that is absent at this version, for the order with this number."""
        return super().gap(table, key, order)

    def gaps(self, table, key):
        """The list of the gaps around a key that is absent at this version, for all orders."""
        return super().gaps(table, key)

    def _rows_of(self, table):
        check_not_forgotten(self._base, self._version)
        # A version never changes, so that its rows are sorted once; a table that is added later is empty in it.
        if table not in self._seen:
            pairs = self._base.rows(table, self._version)
            self._seen[table] = Rows(self._bits, self.orders(table), pairs)
        return self._seen[table]
