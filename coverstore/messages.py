"""Messages to replicas, and requests of replicas: their forms, and what a store tells in them."""

from coverstore.boxes import Box
from coverstore.breaks import fact_break
from coverstore.kinds import is_count, is_name
from coverstore.queries import MAX_TERMS
from coverstore.ranges import are_values

LOOK = "look"
STRETCH = "stretch"
PRESENT = "present"
CLEAR = "clear"


def has_form(value, word, length):
    """Whether a value is a tuple of this length that begins with a word."""
    return isinstance(value, tuple) and len(value) == length and isinstance(value[0], str) and value[0] == word


def are_versions(first, last):
    """Whether two values can be the first and the last version of a fact."""
    return is_count(first) and is_count(last) and first <= last


def is_request(value, store):
    """Whether a value is a request for a key of a table of a store."""
    if not has_form(value, LOOK, 4):
        return False
    _, table, key, version = value
    if not isinstance(table, str) or table not in store.tables():
        return False
    return are_values(key, store.columns(table), store.bits) and is_count(version)


def is_message(value, bits, widths):
    """Whether a value is a message for values of these bits; widths are the columns of the tables that are known."""
    if has_form(value, STRETCH, 3):
        return is_count(value[1]) and are_parts(value[2], bits, widths)
    if has_form(value, PRESENT, 5):
        return is_key_for(value[1], value[2], bits, widths) and are_versions(value[3], value[4])
    if has_form(value, CLEAR, 5):
        return is_box_for(value[1], value[2], bits, widths) and are_versions(value[3], value[4])
    return False


def are_parts(value, bits, widths):
    """Whether a value is a tuple of the (table, box) of a stretch."""
    if not isinstance(value, tuple):
        return False
    for part in value:
        if not isinstance(part, tuple) or len(part) != 2 or not is_box_for(part[0], part[1], bits, widths):
            return False
    return True


def is_box_for(table, value, bits, widths):
    """Whether a value is a box for a table, as far as this table is known."""
    if not is_name(table) or not isinstance(value, Box) or value.bits != bits:
        return False
    return len(value) == widths.get(table, len(value))


def is_key_for(table, value, bits, widths):
    """Whether a value is a key for a table, as far as this table is known."""
    if not is_name(table) or not isinstance(value, tuple) or not 1 <= len(value) <= MAX_TERMS:
        return False
    return are_values(value, widths.get(table, len(value)), bits)


def told_fact(store, word, table, part, version):
    """The message that tells a fact that holds at a version of a store, as long as it goes on to hold."""
    since = fact_break(store, version, (word, table, part))
    last = store.version if since is None else since - 1
    return word, table, part, version, last
