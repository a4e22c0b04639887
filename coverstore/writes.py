"""Lists of writes: whether they are such, and what they leave if they are performed one after another."""

from coverstore.errors import InvalidPayload, InvalidWrite, KeyTaken, NoSuchRow
from coverstore.judging import check_key
from coverstore.kinds import is_list, is_payload
from coverstore.ranges import are_values


def is_write(shape, value):
    """Whether a value is a write for the tables of a base or a source."""
    if not isinstance(value, tuple) or not 3 <= len(value) <= 4:
        return False
    kind, table, key = value[:3]
    if not isinstance(table, str) or table not in shape.tables():
        return False
    if not isinstance(kind, str) or not are_values(key, shape.columns(table), shape.bits):
        return False
    if kind == "delete":
        return len(value) == 3
    return kind in ("insert", "update") and len(value) == 4 and is_payload(value[3])


def check_writes(shape, writes):
    """Raise InvalidWrite for what is no list of writes."""
    if not is_list(writes):
        raise InvalidWrite(-1)
    for position, write in enumerate(writes):
        if not is_write(shape, write):
            raise InvalidWrite(position)


def left_by(shape, writes):
    """What valid writes leave: a dict from (table, key) to the payload, None for an absent key."""
    draft = Draft(shape)
    for write in writes:
        if not draft.performs(write):
            raise_refusal(write)
    return draft.left()


def raise_refusal(write):
    """Raise the error of a write that cannot be performed."""
    kind, table, key = write[:3]
    if kind == "insert":
        raise KeyTaken(table, key)
    raise NoSuchRow(table, key)


def check_row(shape, table, key, payload):
    """Raise the error of what is no table, no key of it or no payload."""
    check_key(shape, table, key)
    if not is_payload(payload):
        raise InvalidPayload(payload)


class Draft:
    """Writes that are performed one after another on the rows of a base or a source, which do not change."""

    def __init__(self, shape):
        self._shape = shape
        self._left = {}
        self._writes = []

    def performs(self, write):
        """Perform a valid write if it can be performed after the earlier ones, and tell whether it was."""
        kind, table, key = write[:3]
        if (kind == "insert") != (self._payload(table, key) is None):
            return False
        self._left[table, key] = None if kind == "delete" else write[3]
        self._writes.append(write)
        return True

    def left(self):
        """What the writes leave: a dict from (table, key) to the payload, None for an absent key."""
        return {row: self._left[row] for row in self._left}

    def writes(self):
        """The list of the writes that were performed."""
        return list(self._writes)

    def _payload(self, table, key):
        if (table, key) in self._left:
            return self._left[table, key]
        return self._shape.payload(table, key)
