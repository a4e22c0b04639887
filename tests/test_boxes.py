"""Points [6], [7] and [9]: boxes, their points, halves, joins and texts."""

import itertools
import unittest

from coverstore.boxes import Box
from coverstore.errors import InvalidBits, InvalidBox, InvalidCount, InvalidPlace, InvalidText, InvalidValue
from coverstore.errors import NoHalf, NotAPoint, NotJoined, Unlike

from helpers import NOT_INTEGERS, NOT_LISTS, NOT_STRINGS, NOT_TUPLES, EqualsAll, Raises
from helpers import all_boxes, all_points, digits_of

NO_BITS = (0, 11, -1, 2 ** 70, EqualsAll()) + NOT_INTEGERS
NO_RANGES = ("0000", "2", "0\n", "*", "-", " ") + NOT_STRINGS


def points_in(box):
    """The points of a box, by definition."""
    return [
        point for point in all_points(box.bits, len(box.ranges))
        if all(digits_of(value, box.bits).startswith(part) for value, part in zip(point, box.ranges))
    ]


class MakingTest(unittest.TestCase, Raises):

    def test_zero_to_five_ranges(self):
        for length in range(6):
            ranges = ["0", "", "1", "01", "11"][:length]
            box = Box(2, ranges)
            self.assertEqual(2, box.bits)
            self.assertEqual(tuple(ranges), box.ranges)
            self.assertIs(tuple, type(box.ranges))
            self.assertEqual(length, len(box))
        self.assertEqual((), Box(1).ranges)
        self.assertEqual(("1",), Box(ranges=("1",), bits=10).ranges)
        self.assertEqual(5, Box.MAX_RANGES)

    def test_later_changes_have_no_effect(self):
        ranges = ["0", "1"]
        box = Box(2, ranges)
        ranges[0] = "11"
        ranges.append("")
        self.assertEqual(("0", "1"), box.ranges)

    def test_bits_first(self):
        for bits in NO_BITS:
            self.must_raise(InvalidBits, {"value": bits}, Box, bits, None)
            self.must_raise(InvalidBits, {"value": bits}, Box, bits)

    def test_no_list(self):
        for ranges in NOT_LISTS:
            self.must_raise(InvalidBox, {"position": -1}, Box, 3, ranges)

    def test_first_invalid_range(self):
        for wrong in NO_RANGES:
            for position in range(5):
                ranges = ["0"] * 5
                ranges[position] = wrong
                self.must_raise(InvalidBox, {"position": position}, Box, 3, ranges)
                self.must_raise(InvalidBox, {"position": position}, Box, 3, tuple(ranges) + ("", wrong))
                self.must_raise(InvalidBox, {"position": position}, Box, 3, ranges[:position] + [wrong, 5, None])

    def test_more_than_five(self):
        for more in (["0"], ["0", "1"], [None], [True, 7], [""] * 100):
            self.must_raise(InvalidBox, {"position": 5}, Box, 3, ["0"] * 5 + more)

    def test_whole(self):
        for length in range(6):
            box = Box.whole(3, length)
            self.assertEqual(Box(3, [""] * length), box)
            self.assertEqual(8 ** length, box.size)
        self.assertEqual(Box(3, [""]), Box.whole(length=1, bits=3))

    def test_whole_errors(self):
        for bits in NO_BITS:
            self.must_raise(InvalidBits, {"value": bits}, Box.whole, bits, 9)
        for length in (-1, 6, 7, 2 ** 70, EqualsAll()) + NOT_INTEGERS:
            self.must_raise(InvalidCount, {"value": length}, Box.whole, 3, length)

    def test_at(self):
        self.assertEqual(Box(3, ["000", "111", "101"]), Box.at(3, 0, 7, 5))
        self.assertEqual(Box(3), Box.at(3))
        self.assertEqual(Box(1, ["0", "1", "0", "1", "0"]), Box.at(1, 0, 1, 0, 1, 0))
        self.assertEqual(Box(4), Box.at(bits=4))

    def test_at_errors(self):
        for bits in NO_BITS:
            self.must_raise(InvalidBits, {"value": bits}, Box.at, bits, -1)
        for value in (-1, 8) + NOT_INTEGERS:
            self.must_raise(InvalidValue, {"value": value}, Box.at, 3, 0, value, 99)
            self.must_raise(InvalidValue, {"value": value}, Box.at, 3, 0, 0, 0, 0, 0, 0, value)
        self.must_raise(InvalidCount, {"value": 6}, Box.at, 3, 0, 0, 0, 0, 0, 0)
        self.must_raise(InvalidCount, {"value": 9}, Box.at, 3, *[7] * 9)


class TextTest(unittest.TestCase, Raises):

    def test_texts(self):
        self.assertEqual("-", str(Box(3)))
        self.assertEqual("*", str(Box(3, [""])))
        self.assertEqual("0,*,101", str(Box(3, ["0", "", "101"])))
        self.assertEqual("*,*,*,*,*", str(Box.whole(10, 5)))

    def test_repr(self):
        self.assertEqual("Box(3, ())", repr(Box(3)))
        self.assertEqual("Box(3, ('',))", repr(Box(3, [""])))
        self.assertEqual("Box(10, ('0', '', '101'))", repr(Box(10, ["0", "", "101"])))

    def test_read_back(self):
        boxes = [Box(2)] + all_boxes(2, 1) + all_boxes(2, 2) + all_boxes(1, 5)
        for box in boxes:
            self.assertEqual(box, Box.read(box.bits, str(box)))
        self.assertEqual(Box(3, ["", "1"]), Box.read(text="*,1", bits=3))

    def test_other_texts(self):
        texts = (
            "", ",", "0,", ",0", "0,,1", "0, 1", " 0", "0 ", "0\n", "\n", "--", "-,0", "0,-", "**", "*0", "0*",
            "2", "a", "0000", "0,0000", "0;1", "*,*,*,*,*,*", "0,0,0,0,0,0", "0,0,0,0,0,", "Box(3, ())",
            "0" * 20000, "," * 20000,
        )
        for text in texts + NOT_STRINGS:
            self.must_raise(InvalidText, {"value": text}, Box.read, 3, text)

    def test_read_bits_first(self):
        for bits in NO_BITS:
            self.must_raise(InvalidBits, {"value": bits}, Box.read, bits, "x")


class EqualityTest(unittest.TestCase):

    def test_equal(self):
        self.assertTrue(Box(3, ["0", ""]) == Box(3, ("0", "")))
        self.assertFalse(Box(3, ["0", ""]) != Box(3, ("0", "")))
        self.assertTrue(Box(3) == Box.whole(3, 0) == Box.at(3))

    def test_different(self):
        box = Box(3, ["0", ""])
        for other in (Box(4, ["0", ""]), Box(3, ["", "0"]), Box(3, ["0"]), Box(3, ["0", "", ""]), Box(3, ["00", ""])):
            self.assertFalse(box == other)
            self.assertTrue(box != other)
        self.assertFalse(Box(3) == Box(4))

    def test_other_kinds(self):
        box = Box(3, ["0", ""])
        for other in (("0", ""), ["0", ""], "0,*", None, 3, True, object(), {}, Box, EqualsAll()):
            self.assertFalse(box == other)
            self.assertTrue(box != other)
        self.assertFalse(Box(3) == ())
        self.assertFalse(Box(3) == 0)


class PointsTest(unittest.TestCase, Raises):

    def test_points_sizes_and_holding(self):
        for bits, length in ((1, 1), (2, 1), (3, 1), (1, 2), (2, 2), (1, 3), (2, 3)):
            points = all_points(bits, length)
            for box in all_boxes(bits, length)[::7 if length == 3 else 1]:
                inside = points_in(box)
                self.assertEqual(inside, list(box.each_point()))
                self.assertEqual(len(inside), box.size)
                self.assertIs(len(inside) == 1, box.is_point)
                self.assertEqual(inside, [point for point in points if box.holds(point)])

    def test_no_ranges(self):
        box = Box(7)
        self.assertEqual([()], list(box.each_point()))
        self.assertEqual(1, box.size)
        self.assertIs(True, box.is_point)
        self.assertEqual((), box.only_point())
        self.assertIs(True, box.holds(()))
        self.assertIs(False, box.holds((0,)))
        self.assertEqual(0, len(box))

    def test_very_many_points(self):
        box = Box.whole(10, 5)
        self.assertEqual(2 ** 50, box.size)
        first = list(itertools.islice(box.each_point(), 1030))
        self.assertEqual([(0, 0, 0, 0, value) for value in range(1024)], first[:1024])
        self.assertEqual((0, 0, 0, 1, 0), first[1024])
        box = Box(10, ["1", "", "01", "", "111111111"])
        first = list(itertools.islice(box.each_point(), 5))
        self.assertEqual([(512, 0, 256, 0, 1022), (512, 0, 256, 0, 1023), (512, 0, 256, 1, 1022)], first[:3])

    def test_points_are_tuples_of_integers(self):
        for point in Box(2, ["", "1"]).each_point():
            self.assertIs(tuple, type(point))
            self.assertEqual([int, int], [type(value) for value in point])

    def test_two_walks_at_once(self):
        box = Box(1, ["", ""])
        one, other = box.each_point(), box.each_point()
        self.assertEqual((0, 0), next(one))
        self.assertEqual((0, 1), next(one))
        self.assertEqual((0, 0), next(other))

    def test_holds_any_value(self):
        box = Box(3, ["0", ""])
        self.assertIs(True, box.holds((3, 7)))
        self.assertIs(True, box.holds(point=(0, 0)))
        others = ((4, 0), (0, 8), (0, -1), (0,), (0, 0, 0), (True, 0), (0, False), ("0", 0), (None, 0), ((0,), 0), ())
        for value in others + NOT_TUPLES + (Box(3, ["000", "000"]), EqualsAll()):
            self.assertIs(False, box.holds(value), value)
        self.assertIs(False, Box(3, ["", ""]).holds([1, 1]))

    def test_only_point(self):
        self.assertEqual((0, 7, 5), Box.at(3, 0, 7, 5).only_point())
        for box in (Box(3, [""]), Box(3, ["00"]), Box(3, ["000", "11"])):
            self.assertIs(False, box.is_point)
            self.must_raise(NotAPoint, {}, box.only_point)


class PlacesTest(unittest.TestCase, Raises):

    def test_ranges_at_places(self):
        box = Box(3, ["0", "", "101"])
        self.assertEqual(["0", "", "101"], [box[place] for place in range(3)])

    def test_other_places(self):
        box = Box(3, ["0", "", "101"])
        for place in (-1, 3, 4, 2 ** 70, slice(0, 1), EqualsAll()) + NOT_INTEGERS:
            self.must_raise(InvalidPlace, {"value": place}, box.__getitem__, place)
        for place in (0, -1):
            self.must_raise(InvalidPlace, {"value": place}, lambda at: Box(3)[at], place)

    def test_halves(self):
        box = Box(2, ["0", "", "11"])
        self.assertEqual(Box(2, ["00", "", "11"]), box.half(0, 0))
        self.assertEqual(Box(2, ["01", "", "11"]), box.half(0, 1))
        self.assertEqual(Box(2, ["0", "0", "11"]), box.half(1, 0))
        self.assertEqual(Box(2, ["0", "1", "11"]), box.half(digit=1, place=1))
        self.must_raise(NoHalf, {"place": 2}, box.half, 2, 0)
        self.must_raise(NoHalf, {"place": 2}, box.half, 2, 1)
        self.assertEqual(("0", "", "11"), box.ranges)

    def test_half_errors(self):
        box = Box(2, ["0", "11"])
        for place in (-1, 2, EqualsAll()) + NOT_INTEGERS:
            self.must_raise(InvalidPlace, {"value": place}, box.half, place, 2)
        for digit in (-1, 2, "0", EqualsAll()) + NOT_INTEGERS:
            self.must_raise(InvalidValue, {"value": digit}, box.half, 0, digit)
            self.must_raise(InvalidValue, {"value": digit}, box.half, 1, digit)
        self.must_raise(InvalidPlace, {"value": 0}, Box(2).half, 0, 0)


class TwoBoxesTest(unittest.TestCase, Raises):

    def test_inside_and_meeting(self):
        for bits, length in ((2, 1), (2, 2), (1, 3)):
            boxes = all_boxes(bits, length)
            inside = {str(box): set(points_in(box)) for box in boxes}
            for one, other in itertools.product(boxes, repeat=2):
                ours, theirs = inside[str(one)], inside[str(other)]
                self.assertIs(ours <= theirs, one in other)
                self.assertIs(bool(ours & theirs), one.meets(other))
                common = one & other
                if ours & theirs:
                    self.assertEqual(ours & theirs, inside[str(common)])
                else:
                    self.assertIsNone(common)

    def test_examples(self):
        box = Box(3, ["0", ""])
        self.assertTrue(box in box)
        self.assertTrue(Box(3, ["01", "111"]) in box)
        self.assertFalse(Box(3, ["", ""]) in box)
        self.assertFalse(Box(3, ["1", ""]) in box)
        self.assertEqual(Box(3, ["01", "1"]), box & Box(3, ["01", "1"]))
        self.assertEqual(Box(3, ["01", "1"]), Box(3, ["01", ""]) & Box(3, ["0", "1"]))
        self.assertEqual(Box(3), Box(3) & Box(3))
        self.assertTrue(Box(3) in Box(3))
        self.assertIs(True, Box(3).meets(Box(3)))
        self.assertIs(True, box.meets(other=box))

    def test_inside_for_any_value(self):
        box = Box(3, ["", ""])
        for value in (Box(4, ["0", "0"]), Box(3, [""]), Box(3, ["", "", ""]), Box(3), (0, 0), ("0", "0"), "0,0", None,
                      0, True, [], {}, EqualsAll()):
            self.assertIs(False, value in box, value)

    def test_unlike(self):
        box = Box(3, ["0", "1"])
        for other in (Box(4, ["0", "1"]), Box(3, ["0"]), Box(3, ["0", "1", ""]), Box(3), None, ("0", "1")):
            self.must_raise(Unlike, {}, lambda: box & other)
            self.must_raise(Unlike, {}, box.meets, other)
            self.must_raise(Unlike, {}, box.joined, other, 9)
        self.must_raise(Unlike, {}, lambda: Box(3) & Box(4))

    def test_joins_by_definition(self):
        for bits, length in ((2, 1), (2, 2), (1, 3)):
            for one, other in itertools.product(all_boxes(bits, length), repeat=2):
                for place in range(length):
                    expected = self.expected_join(one, other, place)
                    if expected is None:
                        self.must_raise(NotJoined, {"place": place}, one.joined, other, place)
                    else:
                        join = one.joined(other, place)
                        self.assertEqual(expected, join.ranges)
                        self.assertLessEqual(set(points_in(join)), set(points_in(one)) | set(points_in(other)))

    def expected_join(self, one, other, place):
        ranges = []
        for at, (mine, theirs) in enumerate(zip(one.ranges, other.ranges)):
            if at == place:
                if not mine or not theirs or mine[-1] + theirs[-1] != "01" or mine[:-1] != theirs[:-1]:
                    return None
                ranges.append(mine[:-1])
            elif mine.startswith(theirs) or theirs.startswith(mine):
                ranges.append(max(mine, theirs, key=len))
            else:
                return None
        return tuple(ranges)

    def test_join_examples(self):
        self.assertEqual(Box(3, [""]), Box(3, ["0"]).joined(Box(3, ["1"]), 0))
        self.assertEqual(Box(3, ["11", "01", "1"]), Box(3, ["1", "010", "1"]).joined(Box(3, ["11", "011", ""]), 1))
        self.assertEqual(Box(3, ["", "0"]), Box(3, ["0", ""]).joined(place=0, other=Box(3, ["1", "0"])))
        self.must_raise(NotJoined, {"place": 0}, Box(3, ["1"]).joined, Box(3, ["0"]), 0)
        self.must_raise(NotJoined, {"place": 0}, Box(3, [""]).joined, Box(3, [""]), 0)
        self.must_raise(NotJoined, {"place": 0}, Box(3, ["0", "0"]).joined, Box(3, ["1", "1"]), 0)

    def test_join_errors(self):
        one, other = Box(3, ["0", ""]), Box(3, ["1", ""])
        for place in (-1, 2, EqualsAll()) + NOT_INTEGERS:
            self.must_raise(InvalidPlace, {"value": place}, one.joined, other, place)
        self.must_raise(InvalidPlace, {"value": 0}, Box(3).joined, Box(3), 0)

    def test_halves_are_joined_again(self):
        for box in all_boxes(2, 2):
            for place in range(2):
                if len(box[place]) < 2:
                    self.assertEqual(box, box.half(place, 0).joined(box.half(place, 1), place))


if __name__ == "__main__":
    unittest.main()
