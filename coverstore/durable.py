"""Durable stores: stores that write each change onto a disk before it happens, and are recovered from there."""

from coverstore.bodies import bits_body, read_bits, read_commit, read_require, read_table
from coverstore.disks import Disk
from coverstore.errors import CoverError, DiskInUse, KeyTaken, NameTaken, NoStore, NoSuchRow, NotEmpty, TooMany
from coverstore.errors import UnknownTable, Violated, WrongColumns
from coverstore.ranges import is_bits
from coverstore.stores import Store

# A page is a mark, which tells whether it is the last one of its record, and a part of the record.
PART = 31
LAST = "."
FURTHER = "+"

MODULUS = 9973
SUM_DIGITS = 4


def record_text(body):
    """The record of a body: the body, a space, and the check sum."""
    total = sum([ord(character) * (place + 1) for place, character in enumerate(body)])
    check = total % MODULUS
    return f"{body} {check:04d}"


def pages_of(record):
    """The list of the pages of a record."""
    parts = [record[start:start + PART].ljust(PART) for start in range(0, len(record), PART)]
    return [FURTHER + part for part in parts[:-1]] + [LAST + part for part in parts[-1:]]


def body_on(pages):
    """The body whose record has exactly these pages, or None."""
    record = "".join([page[1:] for page in pages]).rstrip(" ")
    body = record[:-SUM_DIGITS - 1]
    return body if record_text(body) == record and pages_of(record) == pages else None


def bodies_on(pages):
    """The list of the (body, number of pages up to its end) of the records with which pages begin."""
    found = []
    start = 0
    for number, page in enumerate(pages):
        if page[0] != LAST:
            continue
        body = body_on(pages[start:number + 1])
        if body is None:
            return found
        start = number + 1
        found.append((body, start))
    return found


class Log:
    """The records on a disk."""

    def __init__(self, disk):
        self._disk = disk

    def note(self, body):
        """Write the record of a body at the end."""
        for page in pages_of(record_text(body)):
            self._disk.write(page)


def change_by(ledger, body):
    """Make the change that a body tells, and tell whether it was a possible one."""
    table = read_table(body)
    constraint = read_require(body)
    writes = read_commit(body, ledger.version + 1)
    try:
        if table is not None:
            name, columns, orders = table
            ledger.add_table(name, columns, orders)
        if constraint is not None:
            name, query = constraint
            ledger.require(name, query)
        if writes is not None:
            ledger.commit(writes)
    except (CoverError, UnknownTable, NameTaken, WrongColumns, TooMany, NotEmpty, KeyTaken, NoSuchRow, Violated):
        return False
    return table is not None or constraint is not None or writes is not None


class DurableStore(Store):
    """A store that is told on a disk."""

    def __init__(self, bits, disk):
        super().__init__(bits)
        if len(disk) > 0:
            raise DiskInUse()
        log = Log(disk)
        log.note(bits_body(bits))
        self._ledger.tell_log(log)

    @classmethod
    def recovered(cls, disk):
        """The store that the records on a disk tell; it goes on to use this disk."""
        found = bodies_on(disk.pages())
        bits = read_bits(found[0][0]) if len(found) > 0 else None
        if not is_bits(bits):
            raise NoStore()
        # The changes are performed with a disk of their own, since their records are on this one already.
        store = cls(bits, Disk())
        kept = found[0][1]
        for body, end in found[1:]:
            if not change_by(store._ledger, body):
                break
            kept = end
        disk.keep_first(kept)
        store._ledger.tell_log(Log(disk))
        return store

    def add_table(self, name, columns, *orders):
        """Add a table, as in Store; raise Crashed if its record cannot be written."""
        super().add_table(name, columns, *orders)

    def require(self, name, query):
        """Add a constraint, as in Store; raise Crashed if its record cannot be written."""
        super().require(name, query)
