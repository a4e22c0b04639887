"""Boxes: a range for each place, and the points whose values lie in these ranges."""

from coverstore.errors import InvalidBox, InvalidCount, InvalidPlace, InvalidText, InvalidValue
from coverstore.errors import NoHalf, NotAPoint, NotJoined, Unlike
from coverstore.kinds import is_int, is_list, is_place
from coverstore.ranges import are_values, bounds, check_bits, check_value, is_range, longer_range, range_of


def next_point(point, limits):
    """The point that follows this one within the bounds of each place; after the last one, the first."""
    place = len(point) - 1
    while place >= 0 and point[place] == limits[place][1]:
        place -= 1
    lowest = [low for low, _ in limits[place + 1:]]
    if place < 0:
        return tuple(lowest)
    return point[:place] + (point[place] + 1,) + tuple(lowest)


class Box:
    """A sequence of zero to five ranges; it never changes."""

    MAX_RANGES = 5

    def __init__(self, bits, ranges=()):
        check_bits(bits)
        if not is_list(ranges):
            raise InvalidBox(-1)
        for position, part in enumerate(ranges[:Box.MAX_RANGES]):
            if not is_range(part, bits):
                raise InvalidBox(position)
        if len(ranges) > Box.MAX_RANGES:
            raise InvalidBox(Box.MAX_RANGES)
        self._bits = bits
        self._ranges = tuple(ranges)

    @classmethod
    def whole(cls, bits, length):
        """The box that contains all points of a length."""
        check_bits(bits)
        if not is_place(length, Box.MAX_RANGES + 1):
            raise InvalidCount(length)
        return cls(bits, [""] * length)

    @classmethod
    def at(cls, bits, *values):
        """The point box of these values."""
        check_bits(bits)
        for value in values:
            check_value(value, bits)
        if len(values) > Box.MAX_RANGES:
            raise InvalidCount(len(values))
        return cls(bits, [range_of(value, bits) for value in values])

    @classmethod
    def read(cls, bits, text):
        """The box that has this text."""
        check_bits(bits)
        if not isinstance(text, str):
            raise InvalidText(text)
        parts = [] if text == "-" else text.split(",")
        ranges = ["" if part == "*" else part for part in parts]
        if len(ranges) > Box.MAX_RANGES or not all([is_range(part, bits) for part in ranges]):
            raise InvalidText(text)
        box = cls(bits, ranges)
        if str(box) != text:
            raise InvalidText(text)
        return box

    @property
    def bits(self):
        """The number of digits of each value."""
        return self._bits

    @property
    def ranges(self):
        """The ranges, a tuple."""
        return self._ranges

    @property
    def size(self):
        """The number of points."""
        return 1 << sum([self._bits - len(part) for part in self._ranges])

    @property
    def is_point(self):
        """Whether all ranges are full."""
        return all([len(part) == self._bits for part in self._ranges])

    def __len__(self):
        return len(self._ranges)

    def __eq__(self, other):
        return isinstance(other, Box) and self._bits == other._bits and self._ranges == other._ranges

    def __str__(self):
        if len(self._ranges) == 0:
            return "-"
        return ",".join([part if part != "" else "*" for part in self._ranges])

    def __repr__(self):
        return f"Box({self._bits}, {self._ranges!r})"

    def __iter__(self):
        raise TypeError("a box is not iterated over: take its ranges, or each_point")

    def __getitem__(self, place):
        self._check_place(place)
        return self._ranges[place]

    def __contains__(self, value):
        if not isinstance(value, Box) or not self._is_like(value):
            return False
        return all([inner.startswith(outer) for inner, outer in zip(value._ranges, self._ranges)])

    def __and__(self, other):
        self._check_like(other)
        common = [longer_range(mine, theirs) for mine, theirs in zip(self._ranges, other._ranges)]
        if None in common:
            return None
        return Box(self._bits, common)

    def meets(self, other):
        """Whether the two boxes have a point in common."""
        common = self & other
        return common is not None

    def holds(self, point):
        """Whether a value is a point of the box."""
        if not are_values(point, len(self._ranges), self._bits):
            return False
        limits = [bounds(part, self._bits) for part in self._ranges]
        return all([low <= value <= high for value, (low, high) in zip(point, limits)])

    def only_point(self):
        """The point of a point box."""
        if not self.is_point:
            raise NotAPoint()
        return tuple([int(part, 2) for part in self._ranges])

    def half(self, place, digit):
        """The lower or the upper half of the box at a place."""
        self._check_place(place)
        if not is_int(digit) or digit not in (0, 1):
            raise InvalidValue(digit)
        if len(self._ranges[place]) == self._bits:
            raise NoHalf(place)
        return self._with_range(place, f"{self._ranges[place]}{digit}")

    def joined(self, other, place):
        """The join of this box and another one at a place."""
        self._check_like(other)
        self._check_place(place)
        stem = self._ranges[place][:-1]
        if self._ranges[place] != stem + "0" or other[place] != stem + "1":
            raise NotJoined(place)
        common = self._with_range(place, stem) & other._with_range(place, stem)
        if common is None:
            raise NotJoined(place)
        return common

    def each_point(self):
        """Yield all points, one at a time, in ascending order."""
        limits = [bounds(part, self._bits) for part in self._ranges]
        point = tuple([low for low, _ in limits])
        for _ in range(self.size):
            yield point
            point = next_point(point, limits)

    def _is_like(self, other):
        return self._bits == other._bits and len(self._ranges) == len(other._ranges)

    def _check_like(self, other):
        if not isinstance(other, Box) or not self._is_like(other):
            raise Unlike()

    def _check_place(self, place):
        if not is_place(place, len(self._ranges)):
            raise InvalidPlace(place)

    def _with_range(self, place, part):
        return Box(self._bits, self._ranges[:place] + (part,) + self._ranges[place + 1:])
