"""Points [5] and [8]: bits, values, ranges, least covers, widest ranges."""

import itertools
import unittest

from coverstore.errors import InvalidBits, InvalidRange, InvalidValue
from coverstore.ranges import bounds, common_range, is_bits, is_range, is_value
from coverstore.ranges import least_cover, range_of, widest_range

from helpers import NOT_INTEGERS, NOT_STRINGS, EqualsAll, Raises, all_ranges, digits_of

NO_BITS = (0, 11, -1, 12, 2 ** 70, -2 ** 70, EqualsAll()) + NOT_INTEGERS


def values_in(prefix, bits):
    """The values that a range contains, by definition."""
    return [value for value in range(2 ** bits) if digits_of(value, bits).startswith(prefix)]


class JudgingTest(unittest.TestCase, Raises):

    def test_bits(self):
        for bits in range(1, 11):
            self.assertIs(True, is_bits(bits))
        for value in NO_BITS:
            self.assertIs(False, is_bits(value))
        self.assertIs(True, is_bits(value=3))

    def test_values(self):
        for bits in range(1, 11):
            for value in (0, 1, 2 ** bits - 2, 2 ** bits - 1):
                self.assertIs(True, is_value(value, bits), (value, bits))
            for value in (-1, 2 ** bits, 2 ** bits + 1, 2 ** 90, -2 ** bits):
                self.assertIs(False, is_value(value, bits), (value, bits))
        for value in NOT_INTEGERS:
            self.assertIs(False, is_value(value, 1))
        self.assertIs(True, is_value(bits=3, value=7))

    def test_no_value_without_bits(self):
        for bits in NO_BITS:
            self.assertIs(False, is_value(0, bits))
            self.assertIs(False, is_value(None, bits))
            self.assertIs(False, is_range("", bits))
            self.assertIs(False, is_range(None, bits))

    def test_ranges(self):
        for bits in range(1, 11):
            for prefix in ("", "0", "1", "0" * bits, "1" * bits, ("01" * 5)[:bits]):
                self.assertIs(True, is_range(prefix, bits), (prefix, bits))
            for prefix in ("0" * (bits + 1), "1" * (bits + 1), "0" * 5000):
                self.assertIs(False, is_range(prefix, bits), (prefix, bits))
        self.assertIs(True, is_range(value="01", bits=2))

    def test_other_characters(self):
        for value in ("2", "0 ", " 0", "0\n", "\n", "a", "-", "*", "0b1", "1_0", "+1", "00a", "0,1"):
            self.assertIs(False, is_range(value, 10), value)
        for value in NOT_STRINGS:
            self.assertIs(False, is_range(value, 10), value)


class RangesTest(unittest.TestCase, Raises):

    def test_full_ranges(self):
        for bits in (1, 2, 3, 5, 10):
            for value in range(2 ** bits):
                self.assertEqual(digits_of(value, bits), range_of(value, bits))
        self.assertEqual("0000000000", range_of(0, 10))
        self.assertEqual("0101", range_of(bits=4, value=5))

    def test_full_range_errors(self):
        for bits in NO_BITS:
            self.must_raise(InvalidBits, {"value": bits}, range_of, None, bits)
        for value in (-1, 8, 2 ** 80) + NOT_INTEGERS:
            self.must_raise(InvalidValue, {"value": value}, range_of, value, 3)

    def test_bounds(self):
        for bits in (1, 2, 3, 4):
            for prefix in all_ranges(bits):
                inside = values_in(prefix, bits)
                found = bounds(prefix, bits)
                self.assertIs(tuple, type(found))
                self.assertEqual((inside[0], inside[-1]), found)
                self.assertEqual(len(inside), inside[-1] - inside[0] + 1)
        self.assertEqual((0, 1023), bounds("", 10))
        self.assertEqual((768, 1023), bounds(bits=10, prefix="11"))
        self.assertEqual((1023, 1023), bounds("1" * 10, 10))

    def test_bounds_errors(self):
        for bits in NO_BITS:
            self.must_raise(InvalidBits, {"value": bits}, bounds, "22", bits)
        for prefix in ("0000", "2", "0\n") + NOT_STRINGS:
            self.must_raise(InvalidRange, {"value": prefix}, bounds, prefix, 3)

    def test_common_range(self):
        for bits in (1, 2, 3, 4):
            for one in all_ranges(bits):
                for other in all_ranges(bits):
                    both = sorted(set(values_in(one, bits)) & set(values_in(other, bits)))
                    found = common_range(one, other, bits)
                    if found is None:
                        self.assertEqual([], both)
                    else:
                        self.assertIn(found, (one, other))
                        self.assertEqual(both, values_in(found, bits))
        self.assertEqual("010", common_range("01", "010", 3))
        self.assertEqual("010", common_range(one="010", other="", bits=3))
        self.assertIsNone(common_range("011", "010", 3))

    def test_common_range_errors(self):
        for bits in NO_BITS:
            self.must_raise(InvalidBits, {"value": bits}, common_range, None, None, bits)
        for prefix in ("0000", "2") + NOT_STRINGS:
            self.must_raise(InvalidRange, {"value": prefix}, common_range, prefix, "x", 3)
            self.must_raise(InvalidRange, {"value": prefix}, common_range, "0", prefix, 3)


class LeastCoverTest(unittest.TestCase, Raises):

    def test_shortest_of_all(self):
        # For few bits every set of ranges can be tried.
        for bits in (1, 2, 3):
            ranges = all_ranges(bits)
            for first in range(2 ** bits):
                for last in range(first, 2 ** bits):
                    cover = least_cover(first, last, bits)
                    self.assertEqual([cover], self.shortest_lists(first, last, bits, ranges))

    def shortest_lists(self, first, last, bits, ranges):
        wanted = list(range(first, last + 1))
        fitting = [prefix for prefix in ranges if set(values_in(prefix, bits)) <= set(wanted)]
        for length in range(len(wanted) + 1):
            found = [
                sorted(chosen, key=lambda prefix: bounds(prefix, bits))
                for chosen in itertools.combinations(fitting, length)
                if sorted(set(value for prefix in chosen for value in values_in(prefix, bits))) == wanted
            ]
            if found:
                return found

    def test_exact_ascending_and_not_joinable(self):
        for bits in (4, 5):
            for first in range(2 ** bits):
                for last in range(2 ** bits):
                    cover = least_cover(first, last, bits)
                    values = [value for prefix in cover for value in values_in(prefix, bits)]
                    self.assertEqual(list(range(first, last + 1)), values)
                    for one, other in zip(cover, cover[1:]):
                        self.assertFalse(one and one[:-1] == other[:-1])

    def test_edges(self):
        self.assertEqual([""], least_cover(0, 1023, 10))
        self.assertEqual([], least_cover(5, 4, 3))
        self.assertEqual([], least_cover(7, 0, 3))
        self.assertEqual(["000"], least_cover(0, 0, 3))
        self.assertEqual(["111"], least_cover(7, 7, 3))
        self.assertEqual(["001", "01", "10", "110"], least_cover(1, 6, 3))
        self.assertEqual(["0", "10", "110"], least_cover(last=6, first=0, bits=3))
        self.assertEqual(18, len(least_cover(1, 1022, 10)))

    def test_new_lists(self):
        one, other = least_cover(1, 6, 3), least_cover(1, 6, 3)
        self.assertIs(list, type(one))
        self.assertIsNot(one, other)
        one.append("x")
        self.assertEqual(other, least_cover(1, 6, 3))

    def test_errors(self):
        for bits in NO_BITS:
            self.must_raise(InvalidBits, {"value": bits}, least_cover, -1, -1, bits)
        for value in (-1, 8) + NOT_INTEGERS:
            self.must_raise(InvalidValue, {"value": value}, least_cover, value, 9, 3)
            self.must_raise(InvalidValue, {"value": value}, least_cover, 7, value, 3)


class WidestRangeTest(unittest.TestCase, Raises):

    def test_by_definition(self):
        for bits in (1, 2, 3):
            for value in range(2 ** bits):
                others = [other for other in range(2 ** bits) if other != value]
                for chosen in itertools.chain.from_iterable(
                        itertools.combinations(others, many) for many in range(len(others) + 1)):
                    self.assertEqual(self.expected(value, bits, chosen), widest_range(value, bits, chosen))

    def expected(self, value, bits, barred):
        digits = digits_of(value, bits)
        for length in range(bits + 1):
            if not any(digits_of(other, bits).startswith(digits[:length]) for other in barred):
                return digits[:length]

    def test_barred_in_any_form(self):
        self.assertEqual("", widest_range(5, 3))
        self.assertEqual("", widest_range(5, 3, []))
        self.assertEqual("1", widest_range(5, 3, [0]))
        self.assertEqual("101", widest_range(5, 3, (0, 4, 0, 4)))
        self.assertEqual("10", widest_range(value=5, bits=3, barred=[7, 6, 0]))
        self.assertEqual("1111111111", widest_range(1023, 10, [1022]))

    def test_arguments_stay(self):
        barred = [7, 6]
        widest_range(5, 3, barred)
        self.assertEqual([7, 6], barred)

    def test_errors(self):
        for bits in NO_BITS:
            self.must_raise(InvalidBits, {"value": bits}, widest_range, 9, bits, [9])
        for value in (-1, 8) + NOT_INTEGERS:
            self.must_raise(InvalidValue, {"value": value}, widest_range, value, 3, [99])
            self.must_raise(InvalidValue, {"value": value}, widest_range, 1, 3, [0, value, 77])
            self.must_raise(InvalidValue, {"value": value}, widest_range, 1, 3, (value, 1))

    def test_value_itself_barred(self):
        self.must_raise(InvalidValue, {"value": 5}, widest_range, 5, 3, [0, 5, 99])
        self.must_raise(InvalidValue, {"value": 99}, widest_range, 5, 3, [0, 99, 5])
        self.must_raise(InvalidValue, {"value": True}, widest_range, 1, 3, [True])
        self.must_raise(InvalidValue, {"value": False}, widest_range, 1, 3, [False])


if __name__ == "__main__":
    unittest.main()
