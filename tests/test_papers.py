"""Points [21] to [24]: lines, papers, what they need, their texts."""

import unittest

from coverstore.boxes import Box
from coverstore.errors import InvalidBits, InvalidPaper, InvalidPlace, InvalidText
from coverstore.papers import Paper
from coverstore.queries import Query

from helpers import NOT_INTEGERS, NOT_LISTS, NOT_STRINGS, NOT_TUPLES, EqualsAll, Raises

QUERY = Query.read("r(x,y), not s(y), x < y")


def box(*ranges):
    return Box(2, ranges)


# One line after another; the last one closes the whole box.
LINES = [
    ("gap", 0, box("0", "")),
    ("row", 1, (3,)),
    ("false", 2, box("1", "0")),
    ("false", 2, box("10", "10")),
    ("point", (3, 2)),
    ("join", 3, 4, 0),
    ("join", 5, 1, 1),
    ("join", 2, 6, 1),
    ("join", 0, 7, 0),
    ("part", 8, box("", "")),
]

BOXES = ["0,*", "*,11", "1,0", "10,10", "11,10", "1,10", "1,1", "1,*", "*,*", "*,*"]

TEXT = """gap 0 0,*
row 1 3
false 2 1,0
false 2 10,10
point 3,2
join 3 4 0
join 5 1 1
join 2 6 1
join 0 7 0
part 8 *,*
"""

NO_POSITIONS = (-1, 3, 2 ** 70, EqualsAll()) + NOT_INTEGERS
NO_NUMBERS = (-1, 10, 11, 2 ** 70, EqualsAll()) + NOT_INTEGERS
NO_BOXES = (
    None, True, 0, "", "0,*", "*,*", ("", ""), ["", ""], box(), box(""), box("", "", ""), Box(3, ["", ""]),
    Box(1, ["", ""]), EqualsAll(), object(), Box,
)


class LinesTest(unittest.TestCase, Raises):

    def test_good_lines(self):
        paper = Paper(2, QUERY, LINES)
        self.assertEqual(LINES, paper.lines())
        self.assertEqual(BOXES, [str(paper.box(number)) for number in range(10)])
        self.assertEqual(10, len(paper))

    def no_line(self, line, query=QUERY, before=LINES, bits=2):
        """The value must be no line behind these lines, whatever comes after it."""
        self.must_raise(InvalidPaper, {"position": len(before)}, Paper, bits, query, [*before, line])
        self.must_raise(InvalidPaper, {"position": len(before)}, Paper, bits, query, (*before, line, None, LINES[0]))

    def one_line(self, bits, text, line):
        """The box of a line that stands alone."""
        return str(Paper(bits, Query.read(text), [line]).box(0))

    def test_not_like_a_line(self):
        for value in (EqualsAll(), (), ("gap",), ("point",), ("none", 0, (1,)), ("Gap", 0, box("0", "")), ("",),
                      ("gap", 0), ("row", 1), ("false", 2), ("join", 3, 4), ("part", 8), (None, 0, box("0", "")),
                      (EqualsAll(), 0, box("0", "")), (("gap",), 0, box("0", "")), (["gap"], 0, box("0", "")),
                      (0, "gap", box("0", "")), (b"gap", 0, box("0", ""))) + NOT_TUPLES:
            self.no_line(value)
        for line in LINES:
            self.no_line(list(line))
            self.no_line(line + (0,))
            self.no_line(line + (None,))
            self.no_line(line[:-1])
            self.no_line(line[1:])
            self.no_line(("row" if line[0] != "row" else "gap",) + line[1:])

    def test_positions(self):
        for position in NO_POSITIONS + (1, 2):
            self.no_line(("gap", position, box("0", "")))
            self.no_line(("gap", position, box("0")))
        for position in NO_POSITIONS + (0, 2):
            self.no_line(("row", position, (3,)))
            self.no_line(("row", position, (3, 3)))
        for position in NO_POSITIONS + (0, 1):
            self.no_line(("false", position, box("1", "0")))
            self.no_line(("false", position, box("1")))

    def test_gaps(self):
        for value in NO_BOXES + (LINES[0],):
            self.no_line(("gap", 0, value))
        self.assertEqual("0,10", self.one_line(2, "r(x,y)", ("gap", 0, box("0", "10"))))
        self.assertEqual("10,0", self.one_line(2, "r(x,y), x < y by y,x", ("gap", 0, box("0", "10"))))
        self.assertEqual("*,01,*", self.one_line(2, "x < y, r(y,1,y), z < x by z,y,x", ("gap", 1, box("0", "", "01"))))
        self.assertEqual("-", self.one_line(2, "r(1)", ("gap", 0, box("0"))))

    def test_gaps_that_are_not_laid_over(self):
        self.no_line(("gap", 0, box("0", "1")), Query.read("r(x,x)"), [])
        self.no_line(("gap", 0, box("10", "11")), Query.read("r(x,x)"), [])
        self.no_line(("gap", 0, box("", "1")), Query.read("r(x,1)"), [])
        self.no_line(("gap", 0, box("00")), Query.read("r(1)"), [])
        self.assertEqual("01", self.one_line(2, "r(x,x)", ("gap", 0, box("0", "01"))))
        self.assertEqual("*", self.one_line(2, "r(x,1)", ("gap", 0, box("", "01"))))

    def test_rows(self):
        for key in ((), (3, 3), (4,), (-1,), (True,), (False,), (None,), ("3",), ((3,),), [3], 3, "3", "11", box("11"),
                    EqualsAll(), (EqualsAll(),)) + NOT_TUPLES:
            self.no_line(("row", 1, key))
        self.assertEqual("*,11", self.one_line(2, "r(x), not s(y)", ("row", 1, (3,))))
        self.assertEqual("11,01", self.one_line(2, "not s(x,y) by y,x", ("row", 0, (1, 3))))
        self.assertEqual("10", self.one_line(2, "not s(x,1,x)", ("row", 0, (2, 1, 2))))
        self.assertEqual("-", self.one_line(2, "not s(0)", ("row", 0, (0,))))
        self.no_line(("row", 0, (2, 2, 2)), Query.read("not s(x,1,x)"), [])
        self.no_line(("row", 0, (2, 1, 3)), Query.read("not s(x,1,x)"), [])
        self.no_line(("row", 0, (1,)), Query.read("not s(0)"), [])

    def test_false_boxes(self):
        for value in NO_BOXES:
            self.no_line(("false", 2, value))
        # At some points of these boxes x is less than y.
        for ranges in (("", ""), ("0", "1"), ("", "1"), ("0", ""), ("0", "0"), ("00", "01"), ("1", "1"), ("1", "11")):
            self.no_line(("false", 2, box(*ranges)))
        for ranges in (("1", "0"), ("1", "00"), ("01", "01"), ("", "00"), ("11", "")):
            paper = Paper(2, QUERY, [("false", 2, box(*ranges))])
            self.assertEqual(box(*ranges), paper.closing)
        self.assertEqual("*", self.one_line(2, "x != x", ("false", 0, box(""))))
        self.assertEqual("*", self.one_line(2, "x < 0", ("false", 0, box(""))))
        self.no_line(("false", 0, box("0")), Query.read("x <= x"), [])
        self.no_line(("false", 0, box("0")), Query.read("x < 1"), [])

    def test_points(self):
        for values in ((), (1,), (1, 2, 3), (0, 4), (-1, 0), (True, 0), (0, False), (0, None), ("0", "0"),
                       box("00", "00"),
                       ((0, 0),), EqualsAll(), (EqualsAll(), 0), "00") + NOT_TUPLES:
            self.no_line(("point", values))
        self.assertEqual("11,01", self.one_line(2, "r(x,y)", ("point", (3, 1))))
        self.assertEqual("-", self.one_line(2, "r(1)", ("point", ())))

    def test_joins(self):
        for number in NO_NUMBERS:
            self.no_line(("join", number, 4, 0))
            self.no_line(("join", 3, number, 0))
            self.no_line(("part", number, box("00", "00")))
        for place in (-1, 2, 5, 2 ** 70, EqualsAll()) + NOT_INTEGERS:
            self.no_line(("join", 3, 4, place))
        # Another place, another sequence, the same line twice, boxes that do not fit at the other place.
        for first, second, place in ((3, 4, 1), (4, 3, 0), (3, 3, 0), (0, 0, 0), (2, 3, 0), (2, 3, 1), (1, 2, 1),
                                     (0, 4, 1), (8, 9, 0), (7, 0, 0)):
            self.no_line(("join", first, second, place))
        self.no_line(("join", 0, 1, 0), Query.read("r(1)"), [("point", ()), ("point", ())])

    def test_joins_take_the_longer_ranges(self):
        lines = [("gap", 0, box("00", "")), ("gap", 0, box("01", "10")), ("join", 0, 1, 0)]
        self.assertEqual("0,10", str(Paper(2, QUERY, lines).closing))

    def test_lines_that_do_not_come_before(self):
        self.no_line(("part", 0, box("", "")), before=[])
        self.no_line(("join", 0, 0, 0), before=[])
        self.no_line(("join", 0, 1, 0), before=LINES[:1])
        self.no_line(("join", 0, 2, 0), before=LINES[:1])
        self.no_line(("part", 4, box("11", "10")), before=LINES[:4])
        self.no_line(("part", 5, box("11", "10")), before=LINES[:4])

    def test_parts(self):
        for value in NO_BOXES:
            self.no_line(("part", 0, value))
            self.no_line(("part", 8, value))
        for number, ranges in ((0, ("", "")), (0, ("1", "")), (3, ("1", "10")), (3, ("10", "")), (2, ("1", "10"))):
            self.no_line(("part", number, box(*ranges)))
        for number, ranges in ((0, ("0", "")), (0, ("01", "11")), (8, ("", "")), (9, ("1", "0"))):
            paper = Paper(2, QUERY, LINES + [("part", number, box(*ranges))])
            self.assertEqual(box(*ranges), paper.closing)

    def test_integers_that_are_no_values(self):
        query = Query.read("r(x,4), not s(4,y), x < 4, 4 != y, r(x,3), x <= y, not s(3,y), 2 < y")
        for line in (("gap", 0, box("", "")), ("row", 1, (0, 0)), ("row", 1, (4, 0)), ("false", 2, box("", "")),
                     ("false", 3, box("", "")), ("false", 2, box("11", "11"))):
            self.no_line(line, query, [])
        lines = [("gap", 4, box("", "")), ("row", 6, (3, 1)), ("false", 5, box("1", "0")), ("false", 7, box("", "0")),
                 ("point", (3, 3))]
        self.assertEqual(["*,*", "*,01", "1,0", "*,0", "11,11"],
                         [str(Paper(2, query, [line]).closing) for line in lines])
        self.assertEqual("*,*", str(Paper(3, query, [("gap", 0, Box(3, ["", "1"]))]).closing))


class PaperTest(unittest.TestCase, Raises):

    def test_bits_first(self):
        for bits in (0, 11, -1, 2 ** 70, EqualsAll()) + NOT_INTEGERS:
            self.must_raise(InvalidBits, {"value": bits}, Paper, bits, QUERY, None)
            self.must_raise(InvalidBits, {"value": bits}, Paper.read, bits, QUERY, None)

    def test_no_list_with_an_element(self):
        for lines in NOT_LISTS + ([], (), EqualsAll()):
            self.must_raise(InvalidPaper, {"position": -1}, Paper, 2, QUERY, lines)

    def test_the_first_wrong_position(self):
        for position in range(len(LINES)):
            lines = list(LINES)
            lines[position] = None
            self.must_raise(InvalidPaper, {"position": position}, Paper, 2, QUERY, lines)
            lines[position:] = [None, None]
            self.must_raise(InvalidPaper, {"position": position}, Paper, 2, QUERY, lines)
        self.must_raise(InvalidPaper, {"position": 0}, Paper, 3, QUERY, LINES)
        self.must_raise(InvalidPaper, {"position": 4}, Paper, 3, QUERY, [("point", (7, 7))] * 4 + LINES)

    def test_properties(self):
        paper = Paper(bits=2, query=QUERY, lines=LINES)
        self.assertEqual((2, QUERY, box("", ""), True), (paper.bits, paper.query, paper.closing, paper.is_trimmed))
        self.assertIs(True, paper.is_trimmed)
        self.assertIs(False, Paper(2, QUERY, LINES[:2]).is_trimmed)
        self.assertEqual(box("", "11"), Paper(2, QUERY, LINES[:2]).closing)

    def test_a_tuple_of_lines(self):
        paper = Paper(2, QUERY, tuple(LINES))
        self.assertIs(list, type(paper.lines()))
        self.assertEqual(LINES, paper.lines())

    def test_points(self):
        values = [(3, 2), (0, 1), (3, 2), (0, 0), (2, 3), (3, 2)]
        paper = Paper(2, QUERY, [("point", point) for point in values] + [LINES[0]])
        self.assertEqual([(0, 0), (0, 1), (2, 3), (3, 2)], paper.points())
        self.assertEqual([], Paper(2, QUERY, LINES[:3]).points())
        self.assertEqual([(3, 2)], Paper(2, QUERY, LINES).points())
        self.assertEqual([()], Paper(2, Query.read("r(1)"), [("point", ())] * 3).points())

    def test_boxes(self):
        paper = Paper(2, QUERY, LINES)
        self.assertEqual(box("1", "10"), paper.box(number=5))
        for number in NO_NUMBERS:
            self.must_raise(InvalidPlace, {"value": number}, paper.box, number)

    def test_later_changes_have_no_effect(self):
        lines = list(LINES)
        paper = Paper(2, QUERY, lines)
        lines[0] = ("point", (0, 0))
        lines.pop()
        for call in (paper.lines, paper.points, paper.needed):
            one, other = call(), call()
            self.assertIs(list, type(one))
            self.assertIsNot(one, other)
            one.clear()
            self.assertEqual(other, call())
        self.assertEqual(LINES, paper.lines())
        self.assertEqual(10, len(paper))

    def test_equality(self):
        paper = Paper(2, QUERY, LINES)
        self.assertTrue(paper == Paper(2, Query(QUERY.literals()), tuple(LINES)))
        self.assertFalse(paper != Paper(2, QUERY, LINES))
        points = [("point", (0, 1))]
        one = Paper(2, QUERY, points)
        for other in (Paper(3, QUERY, points), Paper(2, QUERY.in_order("y", "x"), points), Paper(2, QUERY, points * 2),
                      Paper(2, Query.read("r(x,y), not s(y), x <= y"), points), Paper(2, QUERY, [("point", (1, 0))]),
                      Paper(2, QUERY, [LINES[0]]), paper, points, None, str(one), QUERY, 1):
            self.assertFalse(one == other)
            self.assertTrue(one != other)
        self.assertFalse(Paper(2, QUERY, [("gap", 0, box("0", ""))]) == Paper(2, QUERY, [("gap", 0, box("", "0"))]))

    def test_repr(self):
        paper = Paper(2, QUERY, LINES[:2])
        self.assertEqual(f"Paper(2, {QUERY!r}, {LINES[:2]!r})", repr(paper))
        self.assertEqual(
            "Paper(2, Query([('row', 'r', ('x',))], ('x',)), [('gap', 0, Box(2, ('0',))), ('point', (2,))])",
            repr(Paper(2, Query.read("r(x)"), [("gap", 0, box("0")), ("point", (2,))])))


class TrimmingTest(unittest.TestCase):

    def trimmed(self, lines):
        """The trimmed paper, after what must hold for every one was checked."""
        paper = Paper(2, QUERY, lines)
        trimmed = paper.trimmed()
        self.assertIs(Paper, type(trimmed))
        self.assertEqual((2, QUERY), (trimmed.bits, trimmed.query))
        self.assertEqual([paper.box(number) for number in paper.needed()],
                         [trimmed.box(number) for number in range(len(trimmed))])
        self.assertTrue(trimmed.is_trimmed)
        self.assertEqual(trimmed, trimmed.trimmed())
        self.assertEqual(paper.is_trimmed, paper == trimmed)
        self.assertEqual(list(lines), paper.lines())
        return paper.needed(), trimmed.lines()

    def test_all_needed(self):
        self.assertEqual((list(range(10)), LINES), self.trimmed(LINES))
        self.assertEqual(([0], LINES[:1]), self.trimmed(LINES[:1]))

    def test_at_the_beginning(self):
        lines = [("point", (0, 0)), ("part", 0, box("00", "00"))] + LINES[:3]
        self.assertEqual(([4], [LINES[2]]), self.trimmed(lines))
        lines = [("point", (0, 0)), ("point", (0, 0)), ("part", 1, box("00", "00"))]
        self.assertEqual(([1, 2], [("point", (0, 0)), ("part", 0, box("00", "00"))]), self.trimmed(lines))

    def test_in_the_middle(self):
        lines = [LINES[3], LINES[0], ("part", 1, box("01", "")), LINES[4], ("join", 0, 3, 0)]
        self.assertEqual(([0, 3, 4], [LINES[3], LINES[4], ("join", 0, 1, 0)]), self.trimmed(lines))

    def test_several_that_hang_together(self):
        # Lines 2 to 4 need each other and line 0, and nothing that is needed needs them.
        lines = [LINES[3], LINES[4], ("part", 0, box("10", "10")), ("join", 2, 1, 0), ("part", 3, box("10", "10")),
                 ("join", 0, 1, 0), ("part", 5, box("11", "10")), ("join", 0, 6, 0)]
        self.assertEqual(
            ([0, 1, 5, 6, 7],
             [LINES[3], LINES[4], ("join", 0, 1, 0), ("part", 2, box("11", "10")), ("join", 0, 3, 0)]),
            self.trimmed(lines))

    def test_named_twice(self):
        lines = [LINES[0], LINES[8 - 7], LINES[0], ("part", 2, box("00", "")), ("part", 2, box("01", "")),
                 ("join", 3, 4, 0)]
        self.assertEqual(
            ([2, 3, 4, 5],
             [LINES[0], ("part", 0, box("00", "")), ("part", 0, box("01", "")), ("join", 1, 2, 0)]),
            self.trimmed(lines))

    def test_the_last_line_names_none(self):
        self.assertEqual(([10], [("point", (1, 1))]), self.trimmed(LINES + [("point", (1, 1))]))


class TextTest(unittest.TestCase, Raises):

    def test_text_of_each_kind(self):
        paper = Paper(2, QUERY, LINES)
        self.assertEqual(TEXT, str(paper))
        self.assertEqual(paper, Paper.read(2, QUERY, TEXT))
        self.assertEqual(paper, Paper.read(bits=2, query=QUERY, text=TEXT))

    def test_no_variables_and_large_numbers(self):
        query = Query.read("r(1,2), not s(1000,0)")
        lines = [("gap", 0, Box(10, ["", "0000000010"])), ("row", 1, (1000, 0)), ("point", ()), ("part", 2, Box(10))]
        text = "gap 0 *,0000000010\nrow 1 1000,0\npoint -\npart 2 -\n"
        self.assertEqual(text, str(Paper(10, query, lines)))
        self.assertEqual(Paper(10, query, lines), Paper.read(10, query, text))
        query = Query.read("x <= x")
        many = [("point", (1023,))] * 1500 + [("part", 1234, Box(10, ["1111111111"]))]
        text = str(Paper(10, query, many))
        self.assertTrue(text.endswith("point 1023\npart 1234 1111111111\n"))
        self.assertEqual(many, Paper.read(10, query, text).lines())

    def test_other_texts(self):
        wrong = [
            "", "\n", TEXT[:-1], TEXT + "\n", "\n" + TEXT, TEXT + " ", TEXT + "point 3,2", TEXT.replace("\n", "\n\n"),
            TEXT.replace("\n", " \n"), TEXT.replace("\n", "\n "), TEXT.replace("\n", "\r\n"), TEXT.upper(),
            TEXT.replace("gap 0", "gap  0"), TEXT.replace("gap 0", "gap 00"), TEXT.replace("gap 0", "gap +0"),
            TEXT.replace("gap 0", "gap -0"), TEXT.replace("gap 0", "gap"), TEXT.replace("gap 0", "gap x"),
            TEXT.replace("gap 0", "gap 0_0"), TEXT.replace("gap 0", "gap 1"), TEXT.replace("gap 0", "gap 0 0"),
            TEXT.replace("gap", "hole"), TEXT.replace("gap", "Gap"), TEXT.replace("gap", ""),
            TEXT.replace("0,*", "0,"), TEXT.replace("0,*", "0, *"), TEXT.replace("0,*", "*"), TEXT.replace("0,*", "-"),
            TEXT.replace("0,*", "0,*,*"), TEXT.replace("0,*", "0,2"), TEXT.replace("0,*", "0;*"),
            TEXT.replace("row 1 3", "row 1 03"), TEXT.replace("row 1 3", "row 1 4"), TEXT.replace("row 1 3", "row 1 -"),
            TEXT.replace("row 1 3", "row 1 11,"), TEXT.replace("row 1 3", "row 1 3,3"),
            TEXT.replace("row 1 3", "row 1 -3"), TEXT.replace("row 1 3", "row 1 "), TEXT.replace("row 1 3", "row 1"),
            TEXT.replace("point 3,2", "point 3,02"), TEXT.replace("point 3,2", "point 3, 2"),
            TEXT.replace("point 3,2", "point 3"), TEXT.replace("point 3,2", "point -"),
            TEXT.replace("point 3,2", "point (3,2)"), TEXT.replace("point 3,2", "point 3,,2"),
            TEXT.replace("join 3 4 0", "join 3 4"), TEXT.replace("join 3 4 0", "join 4 3 0"),
            TEXT.replace("join 3 4 0", "join 3,4 0"), TEXT.replace("join 3 4 0", "join 3 4 0 0"),
            TEXT.replace("join 3 4 0", "join 3 4 " + "0" * 5000),
            TEXT.replace("join 3 4 0", "join " + "9" * 5000 + " 4 0"), TEXT.replace("part 8", "part 9"),
            TEXT.replace("part 8", "part 08"), TEXT.replace("*,*\n", "*,*"), "point\n", "gap 0 0,*",
            "0\n", "gap\n", " \n", "-\n",
        ]
        for text in wrong:
            self.assertNotEqual(TEXT, text)
            self.must_raise(InvalidText, {"value": text}, Paper.read, 2, QUERY, text)
        for text in NOT_STRINGS + ([TEXT], (TEXT,), TEXT.encode(), EqualsAll(), Paper(2, QUERY, LINES)):
            self.must_raise(InvalidText, {"value": text}, Paper.read, 2, QUERY, text)

    def test_other_bits_and_queries(self):
        self.must_raise(InvalidText, {"value": TEXT}, Paper.read, 1, QUERY, TEXT)
        self.must_raise(InvalidText, {"value": TEXT}, Paper.read, 3, QUERY, TEXT)
        self.must_raise(InvalidText, {"value": TEXT}, Paper.read, 2, Query.read("r(x,y), s(y), x < y"), TEXT)
        self.must_raise(InvalidText, {"value": "gap 0 *\n"}, Paper.read, 2, Query.read("r(4)"), "gap 0 *\n")
        self.must_raise(InvalidText, {"value": "point 0\n"}, Paper.read, 2, Query.read("r(0)"), "point 0\n")


if __name__ == "__main__":
    unittest.main()
