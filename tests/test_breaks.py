"""Points [29] and [30]: breaks of papers, and broken lines."""

import unittest

from coverstore.bases import Base
from coverstore.boxes import Box
from coverstore.breaks import broken_lines, paper_break
from coverstore.engine import paper_of
from coverstore.errors import InvalidValue, TooOld, UnknownTable, UnknownVersion, Unlike, WrongColumns, WrongLine
from coverstore.lines import facts_of
from coverstore.papers import Paper
from coverstore.queries import Query

from helpers import NOT_INTEGERS, EqualsAll, Numbers, Raises
from model import filled_pair
from slow import first_broken, is_broken, slow_break, some_paper

QUERY = Query.read("r(x), not s(x), x < 3")

NO_VERSIONS = (-1, 2 ** 70, EqualsAll()) + tuple(value for value in NOT_INTEGERS if value is not None)


def box(*ranges):
    return Box(2, ranges)


def small_base():
    """Ten versions; what is told in the comments is the keys of r, then those of s."""
    base = Base(2)
    base.add_table("r", 1)
    base.add_table("s", 1)
    base.commit([("insert", "r", (0,), 5), ("insert", "s", (1,), 6)])       # 1: 0 | 1
    base.commit([("update", "r", (0,), 7), ("update", "s", (1,), 8)])       # 2: 0 | 1
    base.commit([("insert", "r", (1,), 1)])                                 # 3: 0 1 | 1
    base.commit([("delete", "r", (0,)), ("delete", "r", (1,))])             # 4: | 1
    base.commit([("delete", "s", (1,)), ("insert", "s", (1,), 0)])          # 5: | 1
    base.commit([("delete", "s", (1,)), ("insert", "r", (0,), 1)])          # 6: 0 |
    base.commit([("insert", "s", (0,), 1)])                                 # 7: 0 | 0
    base.commit([("insert", "r", (3,), 1), ("delete", "r", (0,))])          # 8: 3 | 0
    base.commit([("insert", "r", (0,), 1), ("delete", "s", (0,))])          # 9: 0 3 |
    return base


def paper(*lines, query=QUERY, bits=2):
    return Paper(bits, query, lines)


class FactsTest(unittest.TestCase):

    def test_facts_of_each_kind(self):
        self.assertEqual([("clear", "r", box("01"))], facts_of(QUERY, ("gap", 0, box("01"))))
        self.assertEqual([("present", "s", (1,))], facts_of(QUERY, ("row", 1, (1,))))
        self.assertEqual([("present", "r", (0,)), ("absent", "s", (0,))], facts_of(QUERY, ("point", (0,))))
        for line in (("false", 2, box("11")), ("part", 0, box("01")), ("join", 0, 1, 0)):
            self.assertEqual([], facts_of(QUERY, line))


class PaperBreakTest(unittest.TestCase, Raises):

    def breaks(self, base, *lines, query=QUERY):
        """The break at each version from the oldest one on; WrongLine where the line is wrong there."""
        told = []
        for version in range(base.oldest, base.version + 1):
            try:
                told.append(paper_break(base, version, paper(*lines, query=query)))
            except WrongLine as error:
                told.append(("wrong", error.line))
        return told

    def test_gap_lines(self):
        wrong = ("wrong", 0)
        base = small_base()
        self.assertEqual([3, 3, 3, wrong, None, None, None, None, None, None], self.breaks(base, ("gap", 0, box("01"))))
        self.assertEqual(
            [1, wrong, wrong, wrong, 6, 6, wrong, wrong, 9, wrong], self.breaks(base, ("gap", 0, box("0"))))
        self.assertEqual([8, 8, 8, 8, 8, 8, 8, 8, wrong, wrong], self.breaks(base, ("gap", 0, box("1"))))
        self.assertEqual(
            [1, wrong, wrong, wrong, 6, 6, wrong, wrong, wrong, wrong], self.breaks(base, ("gap", 0, box(""))))

    def test_row_lines(self):
        wrong = ("wrong", 0)
        base = small_base()
        # Neither another payload nor a key that goes and comes back in one commit breaks a row line.
        self.assertEqual([wrong, 6, 6, 6, 6, 6, wrong, wrong, wrong, wrong], self.breaks(base, ("row", 1, (1,))))
        self.assertEqual([wrong] * 7 + [9, 9, wrong], self.breaks(base, ("row", 1, (0,))))
        self.assertEqual([wrong] * 10, self.breaks(base, ("row", 1, (3,))))

    def test_point_lines(self):
        wrong = ("wrong", 0)
        base = small_base()
        # The positive key goes at 4, the denied one comes at 7.
        self.assertEqual([wrong, 4, 4, 4, wrong, wrong, 7, wrong, wrong, None], self.breaks(base, ("point", (0,))))
        query = Query.read("not r(0), not r(1)")
        self.assertEqual([1, wrong, wrong, wrong, 6, 6, wrong, wrong, 9, wrong],
                         self.breaks(base, ("point", ()), query=query))
        query = Query.read("s(1)")
        self.assertEqual([wrong, 6, 6, 6, 6, 6, wrong, wrong, wrong, wrong],
                         self.breaks(base, ("point", ()), query=query))
        # The comparison is false there at every version.
        self.assertEqual([wrong] * 10, self.breaks(base, ("point", (3,))))

    def test_lines_without_facts(self):
        base = small_base()
        false = ("false", 2, box("11"))
        self.assertEqual([None] * 10, self.breaks(base, false))
        self.assertEqual([None] * 10, self.breaks(base, false, ("part", 0, box("11")), ("part", 1, box("11"))))
        point = ("point", (0,))
        lines = (point, ("gap", 0, box("01")), ("join", 0, 1, 0), ("part", 2, box("00")))
        self.assertEqual(3, paper_break(base, 1, paper(*lines)))

    def test_the_least_break(self):
        base = small_base()
        gap, row, point = ("gap", 0, box("01")), ("row", 1, (1,)), ("point", (0,))
        for lines in ((gap, row, point), (point, row, gap), (row, gap, point), (row, point, gap)):
            self.assertEqual(3, paper_break(base, 1, paper(*lines)))
        self.assertEqual(4, paper_break(base, 1, paper(row, point)))
        self.assertEqual(6, paper_break(base, 1, paper(row)))

    def test_lines_that_are_not_needed_count(self):
        base = small_base()
        lines = (("gap", 0, box("01")), ("row", 1, (1,)))
        self.assertFalse(paper(*lines).is_trimmed)
        self.assertEqual(3, paper_break(base, 1, paper(*lines)))
        self.assertEqual(6, paper_break(base, 1, paper(*lines).trimmed()))
        self.must_raise(WrongLine, {"line": 0}, paper_break, base, 3, paper(*lines))

    def test_the_newest_version(self):
        base = small_base()
        point = paper(("point", (0,)))
        self.assertIsNone(paper_break(base, 9, point))
        self.assertIsNone(paper_break(base, None, point))
        self.assertIsNone(paper_break(base=base, version=None, paper=point))
        base.commit([("insert", "s", (0,), 0)])
        self.assertEqual(10, paper_break(base, 9, point))
        self.must_raise(WrongLine, {"line": 0}, paper_break, base, None, point)

    def test_the_first_wrong_line(self):
        base = small_base()
        lines = (("false", 2, box("11")), ("gap", 0, box("01")), ("point", (1,)), ("row", 1, (0,)))
        self.must_raise(WrongLine, {"line": 2}, paper_break, base, 1, paper(*lines))
        self.must_raise(WrongLine, {"line": 1}, paper_break, base, 3, paper(*lines))
        self.must_raise(WrongLine, {"line": 3}, paper_break, base, 3, paper(lines[0], lines[0], lines[0], lines[3]))

    def test_versions_first(self):
        base = small_base()
        base.forget(3)
        for which in (paper(("row", 1, (1,))), paper(("row", 0, (1,)), query=Query.read("not u(x)")),
                      paper(("point", (0,)), bits=3)):
            for version in NO_VERSIONS + (10,):
                self.must_raise(UnknownVersion, {"value": version}, paper_break, base, version, which)
            for version in (0, 1, 2):
                self.must_raise(TooOld, {"least": 3}, paper_break, base, version, which)
        self.assertEqual(6, paper_break(base, 3, paper(("row", 1, (1,)))))
        wrong = ("wrong", 0)
        self.assertEqual([wrong, 6, 6, wrong, wrong, wrong, wrong], self.breaks(base, ("gap", 0, box(""))))

    def test_papers_that_do_not_fit_second(self):
        base = small_base()
        for version in (None, 0, 4):
            self.must_raise(Unlike, {}, paper_break, base, version, paper(("point", (0,)), bits=3))
            which = paper(("point", (0,)), query=Query.read("u(x)"), bits=1)
            self.must_raise(Unlike, {}, paper_break, base, version, which)
            for text, kind, told in (("u(x)", UnknownTable, {"value": "u"}),
                                     ("r(x), s(x,x)", WrongColumns, {"position": 1}),
                                     ("r(x), x != 4", InvalidValue, {"value": 4})):
                which = paper(("point", (3,)), query=Query.read(text))
                self.must_raise(kind, told, paper_break, base, version, which)

    def test_compared(self):
        numbers, told = Numbers(29), []
        for seed, text in enumerate(("r(x,y), not s(y), x < y", "not r(x,x), s(x)", "r(x,y), s(x) by y,x",
                                     "t(x,1,y), not s(x)", "s(x), not s(y)", "r(1,2), not s(0)")):
            query = Query.read(text)
            base, model = filled_pair(seed, 2, 12, 2)
            for version in range(13):
                short = paper_of(base.snapshot(version), query)
                longer = some_paper(numbers, 2, query, short.lines(), 5)
                for which in (short, longer):
                    wrong = first_broken(model, version, which)
                    if wrong is None:
                        told.append(slow_break(model, version, which))
                        self.assertEqual(told[-1], paper_break(base, version, which))
                    else:
                        self.must_raise(WrongLine, {"line": wrong}, paper_break, base, version, which)
        self.assertGreater(len(set(told)), 8)
        self.assertIn(None, told)

    def test_up_to_the_break_the_paper_stays_right(self):
        base, model = filled_pair(8, 2, 14, 1)
        query = Query.read("r(x,y), not s(x)")
        for version in range(15):
            which = paper_of(base.snapshot(version), query)
            found = paper_break(base, version, which)
            for later in range(version, 15):
                broken = broken_lines(base.snapshot(later), which)
                if found is None or later < found:
                    self.assertEqual([], broken)
                elif later == found:
                    self.assertNotEqual([], broken)


class BrokenLinesTest(unittest.TestCase, Raises):

    LINES = (("gap", 0, box("01")), ("row", 1, (1,)), ("point", (0,)), ("false", 2, box("11")), ("part", 0, box("01")),
             ("join", 2, 0, 0))

    def test_at_each_version(self):
        base = small_base()
        expected = [[1, 2], [], [], [0], [2], [2], [1], [1, 2], [1, 2], [1]]
        for version in range(10):
            found = broken_lines(base.snapshot(version), paper(*self.LINES))
            self.assertIs(list, type(found))
            self.assertEqual(expected[version], found)
        self.assertEqual([1], broken_lines(source=base.snapshot(), paper=paper(*self.LINES)))

    def test_wrong_for_a_while(self):
        base = small_base()
        gap = paper(("gap", 0, box("01")))
        self.assertEqual([[], [0], []], [broken_lines(base.snapshot(version), gap) for version in (2, 3, 4)])
        self.assertEqual(3, paper_break(base, 2, gap))

    def test_numbers_are_those_of_the_paper(self):
        base = small_base()
        # Lines that are not needed are broken, too.
        which = paper(("row", 1, (1,)), ("row", 1, (2,)), ("point", (0,)))
        self.assertEqual([0, 1], broken_lines(base.snapshot(), which))

    def test_what_does_not_fit(self):
        source = small_base().snapshot()
        self.must_raise(Unlike, {}, broken_lines, source, paper(("point", (0,)), bits=3))
        self.must_raise(Unlike, {}, broken_lines, source, paper(("point", (0,)), query=Query.read("u(x)"), bits=3))
        for text, kind, told in (("u(x)", UnknownTable, {"value": "u"}), ("s(x,x)", WrongColumns, {"position": 0}),
                                 ("x != 4", InvalidValue, {"value": 4})):
            self.must_raise(kind, told, broken_lines, source, paper(("point", (3,)), query=Query.read(text)))

    def test_forgotten_versions(self):
        base = small_base()
        source = base.snapshot(2)
        base.forget(3)
        for line in self.LINES[:3]:
            self.must_raise(TooOld, {"least": 3}, broken_lines, source, paper(line))
        self.assertEqual([], broken_lines(source, paper(self.LINES[3])))
        # The literal before the comparison is looked up first.
        self.must_raise(TooOld, {"least": 3}, broken_lines, source, paper(("point", (3,))))
        self.assertEqual([0], broken_lines(source, paper(("point", (3,)), query=Query.read("x < 3, r(x)"))))

    def test_compared(self):
        numbers, count = Numbers(30), 0
        for seed, text in enumerate(("r(x,y), not s(y), x < y", "not r(x,x), s(x)", "t(x,1,y), not s(x)")):
            query = Query.read(text)
            base, model = filled_pair(seed, 2, 8, 3)
            for version in range(9):
                which = some_paper(numbers, 2, query, paper_of(base.snapshot(version), query).lines(), 6)
                for other in range(9):
                    expected = [at for at, line in enumerate(which.lines()) if is_broken(model, other, query, line)]
                    self.assertEqual(expected, broken_lines(base.snapshot(other), which))
                    count += len(expected)
        self.assertGreater(count, 100)


if __name__ == "__main__":
    unittest.main()
