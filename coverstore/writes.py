"""Lists of writes: whether they are such, and what they leave if they are performed one after another."""

from coverstore.errors import InvalidWrite, KeyTaken, NoSuchRow
from coverstore.kinds import is_list, is_payload
from coverstore.ranges import are_values


def is_write(shape, value):
    """Whether a value is a write for the tables of a base or a source."""
    if not isinstance(value, tuple) or not 3 <= len(value) <= 4:
        return False
    kind, table, key = value[:3]
    if not isinstance(table, str) or table not in shape.tables():
        return False
    if not isinstance(kind, str) or not are_values(key, shape.columns(table), shape.bits):
        return False
    if kind == "delete":
        return len(value) == 3
    return kind in ("insert", "update") and len(value) == 4 and is_payload(value[3])


def check_writes(shape, writes):
    """Raise InvalidWrite for what is no list of writes."""
    if not is_list(writes):
        raise InvalidWrite(-1)
    for position, write in enumerate(writes):
        if not is_write(shape, write):
            raise InvalidWrite(position)


def left_by(shape, writes):
    """What valid writes leave: a dict from (table, key) to the payload, None for an absent key."""
    left = {}
    for write in writes:
        kind, table, key = write[:3]
        payload = left[table, key] if (table, key) in left else shape.payload(table, key)
        if kind == "insert" and payload is not None:
            raise KeyTaken(table, key)
        if kind != "insert" and payload is None:
            raise NoSuchRow(table, key)
        left[table, key] = None if kind == "delete" else write[3]
    return left
