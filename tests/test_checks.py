"""Points [4] and [22]: lines that are wrong at a source, and papers that are accepted there."""

import unittest

from coverstore.bases import Base
from coverstore.boxes import Box
from coverstore.checks import accepts, wrong_line
from coverstore.engine import paper_of
from coverstore.errors import InvalidPaper, InvalidValue, TooOld, UnknownTable, Unlike, WrongColumns
from coverstore.evaluating import plain_answer
from coverstore.papers import Paper
from coverstore.queries import Query

from helpers import NOT_LISTS, EqualsAll, Numbers, Raises, all_points
from model import filled_pair

QUERY = Query.read("r(x,y), not s(y), x < y")


def box(*ranges):
    return Box(2, ranges)


def small_base():
    """In r: (0, 1), (0, 3), (2, 3), (3, 1); in s: 3. The answer is (0, 1)."""
    base = Base(2)
    base.add_table("r", 2, (1, 0))
    base.add_table("s", 1)
    rows = [("insert", "r", key, 7) for key in ((0, 1), (0, 3), (2, 3), (3, 1))]
    base.commit(rows + [("insert", "s", (3,), 0)])
    return base


LINES = [
    ("gap", 0, box("", "0")),
    ("gap", 0, box("00", "00")),
    ("point", (0, 1)),
    ("join", 1, 2, 1),
    ("false", 2, box("1", "0")),
    ("gap", 0, box("", "10")),
    ("row", 1, (3,)),
    ("join", 5, 6, 1),
    ("gap", 0, box("01", "")),
    ("part", 8, box("01", "0")),
    ("join", 3, 9, 0),
    ("join", 10, 4, 0),
    ("join", 11, 7, 1),
]

RIGHT = LINES[1:]


def renumbered(lines):
    """The lines without the first one of LINES, which is wrong: all numbers are one less."""
    found = []
    for line in lines:
        if line[0] == "join":
            line = ("join", line[1] - 1, line[2] - 1, line[3])
        if line[0] == "part":
            line = ("part", line[1] - 1, line[2])
        found.append(line)
    return found


RIGHT = renumbered(RIGHT)


class WrongLineTest(unittest.TestCase, Raises):

    def wrong(self, *lines, query=QUERY):
        return wrong_line(small_base().snapshot(), Paper(2, query, lines))

    def test_right_lines(self):
        source = small_base().snapshot()
        self.assertIsNone(wrong_line(source, Paper(2, QUERY, RIGHT)))
        self.assertIsNone(wrong_line(source=source, paper=Paper(2, QUERY, [("false", 2, box("1", "0"))])))

    def test_gaps(self):
        self.assertEqual(0, wrong_line(small_base().snapshot(), Paper(2, QUERY, LINES)))
        for ranges, wrong in ((("01", ""), None), (("", "10"), None), (("0", "0"), 0), (("", ""), 0), (("11", "01"), 0),
                              (("11", "00"), None), (("1", "11"), 0), (("10", "0"), None)):
            self.assertEqual(wrong, self.wrong(("gap", 0, box(*ranges))))

    def test_the_whole_box_of_columns_must_be_clear(self):
        # Laid over, the box is clear where x stands in both columns; as a box of columns it is not.
        query = Query.read("r(x,x)")
        self.assertEqual(0, self.wrong(("gap", 0, box("", "")), query=query))
        self.assertIsNone(self.wrong(("gap", 0, box("0", "00")), query=query))

    def test_rows(self):
        self.assertIsNone(self.wrong(("row", 1, (3,))))
        for value in (0, 1, 2):
            self.assertEqual(0, self.wrong(("row", 1, (value,))))

    def test_points(self):
        for point in all_points(2, 2):
            self.assertEqual(None if point == (0, 1) else 0, self.wrong(("point", point)))
        # At these points the positive, the denied literal, the comparison is the only one that does not hold.
        for point in ((1, 2), (0, 3), (3, 1)):
            self.assertEqual(0, self.wrong(("point", point)))
        self.assertIsNone(self.wrong(("point", ()), query=Query.read("r(3,1), not s(0)")))
        self.assertEqual(0, self.wrong(("point", ()), query=Query.read("r(3,1), not s(3)")))

    def test_the_first_wrong_line(self):
        self.assertEqual(2, self.wrong(LINES[1], LINES[2], LINES[0], ("row", 1, (0,))))
        self.assertEqual(1, self.wrong(LINES[1], ("row", 1, (0,)), LINES[0]))
        self.assertEqual(3, self.wrong(LINES[1], ("part", 0, box("00", "00")), LINES[4], ("point", (3, 3)), LINES[0]))

    def test_lines_that_are_not_needed_count(self):
        self.assertEqual(0, self.wrong(LINES[0], ("false", 2, box("1", "0"))))

    def test_boxes_are_of_the_source(self):
        base = small_base()
        old = base.snapshot()
        base.commit([("delete", "s", (3,)), ("insert", "r", (1, 0), 0)])
        self.assertIsNone(wrong_line(old, Paper(2, QUERY, RIGHT)))
        self.assertEqual(5, wrong_line(base.snapshot(), Paper(2, QUERY, RIGHT)))
        self.assertEqual(0, wrong_line(base.snapshot(0), Paper(2, QUERY, RIGHT[1:2])))

    def test_what_does_not_fit(self):
        base = Base(3)
        base.add_table("r", 2)
        base.add_table("s", 2)
        self.must_raise(Unlike, {}, wrong_line, base.snapshot(), Paper(2, QUERY, RIGHT))
        self.must_raise(Unlike, {}, wrong_line, base.snapshot(), Paper(2, Query.read("u(x)"), [("point", (0,))]))
        paper = Paper(3, QUERY, [("point", (0, 0))])
        self.must_raise(WrongColumns, {"position": 1}, wrong_line, base.snapshot(), paper)
        paper = Paper(3, Query.read("r(x,y), t(x)"), [("point", (0, 0))])
        self.must_raise(UnknownTable, {"value": "t"}, wrong_line, base.snapshot(), paper)
        paper = Paper(3, Query.read("x < 9"), [("point", (0,))])
        self.must_raise(InvalidValue, {"value": 9}, wrong_line, base.snapshot(), paper)

    def test_forgotten_versions(self):
        base = small_base()
        source = base.snapshot(0)
        base.forget(1)
        self.must_raise(TooOld, {"least": 1}, wrong_line, source, Paper(2, QUERY, RIGHT))
        for lines in ([("false", 2, box("1", "0"))], [("false", 2, box("1", "0")), ("part", 0, box("11", "01"))]):
            self.assertIsNone(wrong_line(source, Paper(2, QUERY, lines)))
        for line in (("gap", 0, box("", "")), ("row", 1, (0,)), ("point", (0, 0))):
            self.must_raise(TooOld, {"least": 1}, wrong_line, source, Paper(2, QUERY, [line]))
        # The comparison comes first and is false, so no row has to be looked up.
        self.assertEqual(0, wrong_line(source, Paper(2, Query.read("x < y, r(x,y)"), [("point", (1, 1))])))


class AcceptsTest(unittest.TestCase, Raises):

    def setUp(self):
        self.base = small_base()
        self.source = self.base.snapshot()
        self.paper = Paper(2, QUERY, RIGHT)

    def accepts(self, answer, paper, query=QUERY):
        return accepts(self.source, query, answer, paper)

    def test_right(self):
        self.assertIs(True, self.accepts([(0, 1)], self.paper))
        self.assertIs(True, self.accepts(((0, 1),), self.paper))
        self.assertIs(True, accepts(source=self.source, query=Query(QUERY.literals()), answer=[(0, 1)],
                                    paper=paper_of(self.source, QUERY)))

    def test_other_answers(self):
        for answer in ([], (), [(0, 1), (0, 1)], [(0, 1), (0, 2)], [(0, 0), (0, 1)], [(1, 0)], [(0, True)],
                       [(False, 1)],
                       [[0, 1]], [(0, 1, 0)], [(0,)], [()], (0, 1), [0, 1], [None], [EqualsAll()], EqualsAll(),
                       [((0, 1),)], [("0", "1")], {(0, 1): True}, {(0, 1)}, "01", self.paper) + NOT_LISTS:
            self.assertIs(False, self.accepts(answer, self.paper))

    def test_several_points(self):
        query = Query.read("s(x), x <= x")
        self.base.commit([("insert", "s", (0,), 0), ("insert", "s", (2,), 0)])
        self.source = self.base.snapshot()
        paper = paper_of(self.source, query)
        points = [(0,), (2,), (3,)]
        self.assertIs(True, self.accepts(points, paper, query))
        self.assertIs(True, self.accepts(tuple(points), paper, query))
        for answer in (points[::-1], points[:2], points[1:], [(0,), (3,), (2,)], points + [(3,)], [(0,)] + points,
                       [(0,), (1,), (3,)], [(0,), (2,), (3, 0)]):
            self.assertIs(False, self.accepts(answer, paper, query))

    def test_no_points(self):
        query = Query.read("x < x")
        paper = Paper(2, query, [("false", 0, box(""))])
        self.assertIs(True, self.accepts([], paper, query))
        self.assertIs(True, self.accepts((), paper, query))
        self.assertIs(False, self.accepts([()], paper, query))
        for answer in NOT_LISTS:
            self.assertIs(False, self.accepts(answer, paper, query))

    def test_no_variables(self):
        query = Query.read("r(0,1)")
        self.assertIs(True, self.accepts([()], Paper(2, query, [("point", ())]), query))
        self.assertIs(False, self.accepts([], Paper(2, query, [("point", ())]), query))
        self.assertIs(False, self.accepts([], Paper(2, query, [("gap", 0, box("0", "0"))]), query))
        query = Query.read("r(0,0)")
        self.assertIs(True, self.accepts([], Paper(2, query, [("gap", 0, box("0", "00"))]), query))

    def test_closing_boxes(self):
        for count in range(1, len(RIGHT)):
            paper = Paper(2, QUERY, RIGHT[:count])
            self.assertIs(False, self.accepts(paper.points(), paper))
        self.assertIs(False, self.accepts([(0, 1)], Paper(2, QUERY, RIGHT + [("part", 11, box("0", ""))])))
        self.assertIs(True, self.accepts([(0, 1)], Paper(2, QUERY, RIGHT + [("part", 11, box("", ""))])))

    def test_wrong_lines(self):
        wrong = Paper(2, QUERY, LINES)
        self.assertIs(False, self.accepts([(0, 1)], wrong))
        self.assertIs(False, self.accepts([(0, 1)], Paper(2, QUERY, [("gap", 0, box("", ""))])))
        self.assertIs(False, self.accepts([], Paper(2, QUERY, [("gap", 0, box("", ""))])))
        lines = [line if line[0] != "point" else ("gap", 0, box("00", "01")) for line in RIGHT]
        self.assertIs(False, self.accepts([], Paper(2, QUERY, lines)))
        more = Paper(2, QUERY, [("point", (3, 3))] + LINES[1:2] + [("part", 1, box("00", "00"))])
        self.assertIs(False, self.accepts(more.points(), more))

    def test_other_queries_and_bits(self):
        self.assertIs(False, self.accepts([(0, 1)], self.paper, QUERY.in_order("y", "x")))
        self.assertIs(False, self.accepts([(0, 1)], self.paper, Query.read("r(x,y), not s(y), x != y")))
        same = Query.read("r(x,y), r(x,y)")
        paper = paper_of(self.source, Query.read("r(x,y)"))
        self.assertIs(False, self.accepts(paper.points(), paper, same))
        query = Query.read("x < x")
        other = Paper(3, query, [("false", 0, Box(3, [""]))])
        self.assertIs(False, self.accepts([], other, query))
        self.assertIs(True, accepts(Base(3).snapshot(), query, [], other))

    def test_no_papers(self):
        for paper in NOT_LISTS + ([], (), RIGHT, str(self.paper), EqualsAll(), QUERY, Paper, box("", "")):
            self.assertIs(False, self.accepts([(0, 1)], paper))
            self.assertIs(False, self.accepts(None, paper))

    def test_queries_that_do_not_fit_first(self):
        for text, kind, told in (("u(x)", UnknownTable, {"value": "u"}), ("r(x)", WrongColumns, {"position": 0}),
                                 ("x < 4", InvalidValue, {"value": 4})):
            self.must_raise(kind, told, accepts, self.source, Query.read(text), None, None)
            self.must_raise(kind, told, accepts, self.source, Query.read(text), [(0, 1)], self.paper)

    def test_forgotten_versions(self):
        self.base.commit([("delete", "s", (3,))])
        self.base.forget(2)
        self.must_raise(TooOld, {"least": 2}, self.accepts, [(0, 1)], self.paper)
        # Nothing needs a look at a row to be refused for another reason.
        self.assertIs(False, self.accepts([], self.paper))
        self.assertIs(False, self.accepts([(0, 1)], None))
        query = Query.read("x < x")
        self.assertIs(True, self.accepts([], Paper(2, query, [("false", 0, box(""))]), query))

    def test_later_versions(self):
        self.base.commit([("update", "r", (0, 1), 3), ("insert", "r", (3, 0), 1)])
        self.assertIs(True, accepts(self.base.snapshot(), QUERY, [(0, 1)], self.paper))
        self.base.commit([("insert", "s", (1,), 1)])
        self.assertIs(False, accepts(self.base.snapshot(), QUERY, [(0, 1)], self.paper))
        self.assertIs(False, accepts(self.base.snapshot(), QUERY, [], self.paper))
        self.assertIs(True, accepts(self.base.snapshot(2), QUERY, [(0, 1)], self.paper))


class CompleteTest(unittest.TestCase):
    """What is accepted is the answer, whatever was done to the paper."""

    TEXTS = ("r(x,y), not s(y), x < y", "r(x,y), r(y,x)", "not r(x,x), s(x)", "r(x,2), x != 1", "s(x), not s(y)")

    def changed(self, numbers, paper):
        """A paper with one line replaced by another one of it, or by another point, gap, row or false box."""
        lines = paper.lines()
        at, length = numbers.below(len(lines)), len(paper.query.variables)
        some = [numbers.one_of(["", "0", "1", "01", "10"]) for _ in range(2)]
        lines[at] = numbers.one_of([
            lines[numbers.below(len(lines))],
            ("point", tuple(numbers.below(4) for _ in range(length))),
            ("gap", 0, Box(2, some[:len(paper.query.literals()[0][2])])),
            ("row", 1, (numbers.below(4),)),
            ("false", len(paper.query) - 1, Box(2, some[:length])),
        ])
        try:
            return Paper(2, paper.query, lines)
        except InvalidPaper:
            return paper

    def test_changed_papers(self):
        numbers, accepted = Numbers(11), 0
        for text in self.TEXTS:
            query = Query.read(text)
            for seed in range(6):
                source = filled_pair(seed, 2, 3)[0].snapshot(numbers.below(3) + 1)
                answer, paper = plain_answer(source, query), paper_of(source, query)
                self.assertIs(True, accepts(source, query, answer, paper))
                for _ in range(40):
                    paper = self.changed(numbers, paper)
                    if accepts(source, query, paper.points(), paper):
                        accepted += 1
                        self.assertEqual(answer, paper.points())
        self.assertGreater(accepted, 50)

    def test_papers_of_other_versions(self):
        right = 0
        for text in self.TEXTS:
            query = Query.read(text)
            base = filled_pair(3, 2, 8, 2)[0]
            for version in range(9):
                paper = paper_of(base.snapshot(version), query)
                for other in range(9):
                    source = base.snapshot(other)
                    answer = plain_answer(source, query)
                    self.assertEqual(wrong_line(source, paper) is None, accepts(source, query, paper.points(), paper))
                    if wrong_line(source, paper) is None:
                        right += 1
                        self.assertEqual(answer, paper.points())
                    elif answer != paper.points():
                        self.assertIs(False, accepts(source, query, answer, paper))
        self.assertGreater(right, 60)


if __name__ == "__main__":
    unittest.main()
