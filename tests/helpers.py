"""What several tests need: values of other kinds, all ranges, boxes and points, a call that must raise an error."""

import itertools

from coverstore.boxes import Box

# Values that are no integers; True and False stand first, since they equal 1 and 0.
NOT_INTEGERS = (True, False, None, "1", "", b"1", (), (1,), [], [1], {}, {1: 1}, object(), int, len)

# Values that are no strings.
NOT_STRINGS = (True, False, None, 0, 1, b"0", (), ("0",), [], ["0"], {}, object(), str)

# Values that are neither lists nor tuples.
NOT_LISTS = (True, False, None, 0, 1, "", "01", b"01", {}, {0: 0}, object(), range(2), list, iter([]))

# Values that are no tuples, though some of them equal one element for element.
NOT_TUPLES = (True, False, None, 0, 1, "", "0", b"0", [], [0], [0, 0], {}, {0: 0}, object(), range(2), tuple)

# Values that are no names.
NOT_NAMES = (
    True, None, 0, 1, "", "abcdefghi", "A", "aB", "a1", "1", "a b", " a", "a ", "a_b", "a-b", "a\n", "\n",
    "not", "by", b"a", ("a",), ["a"], {}, object(),
)

# Names, as short and as long as they may be, and such that only begin like the reserved words.
NAMES = ("a", "z", "abcdefgh", "zzzzzzzz", "nots", "no", "bye", "b", "row", "none")


class EqualsAll:
    """A value that says that it equals everything."""

    def __eq__(self, other):
        return True

    def __hash__(self):
        return 0


def digits_of(value, bits):
    """The digits of a value, worked out one by one."""
    return "".join(str(value // 2 ** place % 2) for place in range(bits - 1, -1, -1))


def all_ranges(bits):
    """All ranges for so many bits."""
    return ["".join(digits) for length in range(bits + 1) for digits in itertools.product("01", repeat=length)]


def all_boxes(bits, length):
    """All boxes with so many ranges."""
    return [Box(bits, ranges) for ranges in itertools.product(all_ranges(bits), repeat=length)]


def all_points(bits, length):
    """All points with so many values, in ascending order."""
    return list(itertools.product(range(2 ** bits), repeat=length))


def told(error):
    """The attributes of an error, by name."""
    return dict(vars(error))


class Raises:
    """Mixed into test cases: a call must raise exactly this class of error with exactly these attributes."""

    def must_raise(self, kind, attributes, call, *given, **named):
        try:
            result = call(*given, **named)
        except Exception as error:
            self.assertEqual(kind.__name__, type(error).__name__, f"{given!r} {named!r}")
            self.assertIs(kind, type(error))
            self.assertEqual(sorted(attributes), sorted(told(error)))
            for name, value in attributes.items():
                self.must_be(value, told(error)[name])
            return
        self.fail(f"{kind.__name__} was not raised for {given!r} {named!r}, but {result!r} returned")

    def must_be(self, expected, found):
        """Equal, and of the same class, so that True is not taken for 1."""
        self.assertIs(type(expected), type(found))
        if expected is not found:
            self.assertEqual(expected, found)


class Numbers:
    """Numbers that look random, and are the same in every run."""

    def __init__(self, seed):
        self.state = seed * 2654435761 + 12345

    def below(self, limit):
        self.state = (self.state * 6364136223846793005 + 1442695040888963407) % 2 ** 64
        return (self.state >> 33) % limit

    def one_of(self, choices):
        return choices[self.below(len(choices))]
