"""Errors that bases and sources raise alike; a shape is either of them: it has bits, and tables with columns."""

from coverstore.boxes import Box
from coverstore.errors import InvalidKey, TooOld, UnknownVersion, Unlike
from coverstore.kinds import is_place
from coverstore.ranges import are_values


def meant_version(base, version):
    """The version that is meant, which is the newest one for None; raise the error of one that is not there."""
    if version is None:
        return base.version
    if not is_place(version, base.version + 1):
        raise UnknownVersion(version)
    check_not_forgotten(base, version)
    return version


def named_version(base, version):
    """The version, where it must be named: None is none here; raise the error of one that is not there."""
    if version is None:
        raise UnknownVersion(None)
    return meant_version(base, version)


def check_not_forgotten(base, version):
    """Raise TooOld for a version before the oldest one."""
    if version < base.oldest:
        raise TooOld(base.oldest)


def check_key(shape, table, key):
    """Raise the error of what is no table, or no key of it."""
    columns = shape.columns(table)
    if not are_values(key, columns, shape.bits):
        raise InvalidKey(key)


def check_columns_box(shape, table, box):
    """Raise the error of what is no table, or no box of its columns."""
    check_box(box, shape.bits, shape.columns(table))


def check_box(box, bits, length):
    """Raise Unlike for a box with other bits or another number of ranges."""
    check_length(box, length)
    if box.bits != bits:
        raise Unlike()


def check_length(box, length):
    """Raise Unlike for a box that has another number of ranges."""
    if not isinstance(box, Box) or len(box) != length:
        raise Unlike()
