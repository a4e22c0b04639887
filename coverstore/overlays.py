"""Overlays: sources that show what another source would show after some writes."""

from coverstore.judging import check_key
from coverstore.rows import Rows
from coverstore.sources import Source
from coverstore.writes import check_writes, left_by


class Overlay(Source):
    """The rows of a source with writes laid over them. The methods of every source stand in this class itself."""

    def __init__(self, source, writes):
        super().__init__(source)
        check_writes(source, writes)
        self._source = source
        self._left = left_by(source, writes)
        self._writes = list(writes)
        self._seen = {}

    def writes(self):
        """The list of the writes."""
        return list(self._writes)

    @property
    def bits(self):
        """The number of digits of each value."""
        return self._bits

    def tables(self):
        """The list of the names of the tables, also of those that were added later."""
        return super().tables()

    def columns(self, table):
        """The number of key columns of a table."""
        return super().columns(table)

    def orders(self, table):
        """The list of the orders of a table, the ascending one first."""
        return super().orders(table)

    def payload(self, table, key):
        """The payload of a key after the writes, or None if it is absent."""
        check_key(self, table, key)
        # A key that was written is known without the source, whose version may have been forgotten since.
        if (table, key) in self._left:
            return self._left[table, key]
        return self._source.payload(table, key)

    def keys_in(self, table, box):
        """The sorted list of the keys in a box of columns that are present after the writes."""
        return super().keys_in(table, box)

    def is_clear(self, table, box):
        """Whether no key in a box of columns is present after the writes."""
        return super().is_clear(table, box)

    def gap(self, table, key, order=0):
        """The gap around a key that is absent after the writes, for the order with this number."""
        return super().gap(table, key, order)

    def gaps(self, table, key):
        """The list of the gaps around a key that is absent after the writes, for all orders."""
        return super().gaps(table, key)

    def _rows_of(self, table):
        # The source is asked each time, since its version may have been forgotten since the last time.
        below = self._source._rows_of(table)
        if table not in self._seen:
            payloads = below.payloads()
            for (name, key), payload in self._left.items():
                if name == table:
                    payloads[key] = payload
            pairs = [(key, payload) for key, payload in payloads.items() if payload is not None]
            self._seen[table] = Rows(self._bits, self.orders(table), pairs)
        return self._seen[table]
