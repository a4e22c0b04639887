"""Points [4], [31] and [32]: repaired papers, and what became of the points."""

import unittest

from coverstore.bases import Base
from coverstore.boxes import Box
from coverstore.breaks import broken_lines
from coverstore.checks import wrong_line
from coverstore.engine import paper_of
from coverstore.errors import InvalidValue, TooOld, UnknownTable, Unlike, WrongColumns
from coverstore.evaluating import plain_answer
from coverstore.papers import Paper
from coverstore.queries import Query
from coverstore.repair import Repair, repaired

from helpers import Numbers, Raises, all_boxes
from model import commit_to_both, filled_pair, some_writes
from slow import plain, slow_paper, slow_repair, some_paper

QUERY = Query.read("r(x)")


def box(*ranges):
    return Box(2, ranges)


def one_table(*keys):
    base = Base(2)
    base.add_table("r", 1)
    base.commit([("insert", "r", (key,), 0) for key in keys])
    return base


class WorkedOutTest(unittest.TestCase):
    """Repairs that were worked out by hand."""

    def check(self, base, paper, text, lost=(), found=(), probed=()):
        repair = repaired(base.snapshot(), paper)
        self.assertIs(Repair, type(repair))
        self.assertIs(Paper, type(repair.paper))
        self.assertEqual(text, str(repair.paper))
        self.assertEqual((list(lost), list(found), list(probed)), (repair.lost(), repair.found(), repair.probed()))
        self.assertIs(bool(lost or found), repair.is_changed)

    def test_a_gap_that_is_broken(self):
        base = one_table(0)
        paper = paper_of(base.snapshot(), QUERY)
        self.assertEqual("point 0\ngap 0 01\njoin 0 1 0\ngap 0 1\njoin 2 3 0\n", str(paper))
        base.commit([("insert", "r", (3,), 0)])
        self.check(base, paper, "point 0\ngap 0 01\njoin 0 1 0\ngap 0 10\npoint 3\njoin 3 4 0\njoin 2 5 0\n",
                   found=[(3,)], probed=[(2,), (3,)])

    def test_a_part_line_is_appended(self):
        base = one_table(0)
        paper = paper_of(base.snapshot(), QUERY)
        base.commit([("delete", "r", (0,)), ("insert", "r", (3,), 0)])
        self.check(base, paper, "gap 0 0\npart 0 00\ngap 0 01\njoin 1 2 0\ngap 0 10\npoint 3\njoin 4 5 0\njoin 3 6 0\n",
                   lost=[(0,)], found=[(3,)], probed=[(0,), (2,), (3,)])

    def test_a_line_that_is_covered_by_an_earlier_new_line(self):
        base = one_table(0, 1)
        paper = paper_of(base.snapshot(), QUERY)
        base.commit([("delete", "r", (0,)), ("delete", "r", (1,))])
        # The gap around 0 is the whole box, so nothing is probed for the second point.
        self.check(base, paper, "gap 0 *\npart 0 00\npart 0 01\njoin 1 2 0\ngap 0 1\njoin 3 4 0\n",
                   lost=[(0,), (1,)], probed=[(0,)])

    def test_nothing_is_broken(self):
        base = one_table(0)
        paper = paper_of(base.snapshot(), QUERY)
        base.commit([("update", "r", (0,), 5)])
        self.check(base, paper, str(paper))
        lines = [("gap", 0, box("10")), ("point", (0,)), ("part", 1, box("00")), ("point", (3,)),
                 ("part", 2, box("00"))]
        self.check(base, Paper(2, QUERY, lines), "point 0\npart 0 00\npart 1 00\n")

    def test_a_row_that_is_broken(self):
        base = one_table(0, 1)
        query = Query.read("not r(x)")
        paper = paper_of(base.snapshot(), query)
        self.assertEqual("row 0 0\nrow 0 1\njoin 0 1 0\npoint 2\npoint 3\njoin 3 4 0\njoin 2 5 0\n", str(paper))
        base.commit([("delete", "r", (1,)), ("insert", "r", (2,), 0)])
        self.check(base, paper, "row 0 0\npoint 1\njoin 0 1 0\nrow 0 2\npoint 3\njoin 3 4 0\njoin 2 5 0\n",
                   lost=[(2,)], found=[(1,)], probed=[(1,), (2,)])

    def test_the_last_line_is_broken(self):
        base = one_table()
        base.commit([("insert", "r", (2,), 0)])
        self.check(base, Paper(2, QUERY, [("gap", 0, box("1"))]), "point 2\ngap 0 11\njoin 0 1 0\n",
                   found=[(2,)], probed=[(2,), (3,)])
        # The gap around the only probed point is larger than the closing box.
        self.check(base, Paper(2, QUERY, [("point", (0,))]), "gap 0 0\npart 0 00\n", lost=[(0,)], probed=[(0,)])

    def test_a_point_that_was_never_one(self):
        base = one_table(1)
        query = Query.read("r(x), x < 1")
        self.check(base, Paper(2, query, [("point", (1,))]), "false 1 01\n", lost=[(1,)], probed=[(1,)])

    def test_a_point_line_that_is_there_twice(self):
        base = one_table(1)
        lines = [("point", (0,)), ("point", (1,)), ("join", 0, 1, 0), ("point", (0,)), ("join", 3, 1, 0),
                 ("part", 2, box("0")),
                 ("gap", 0, box("1")), ("join", 5, 6, 0)]
        # Lines 3 and 4 are not needed; with a join that names them, the point is still lost once.
        self.check(base, Paper(2, QUERY, lines), "gap 0 00\npoint 1\njoin 0 1 0\npart 2 0\ngap 0 1\njoin 3 4 0\n",
                   lost=[(0,)], probed=[(0,)])
        query = Query.read("r(x), r(y)")
        both = [("point", (0, 0)), ("gap", 0, box("01")), ("join", 0, 1, 0), ("point", (0, 1)), ("gap", 0, box("01")),
                ("join", 3, 4, 0), ("join", 2, 5, 1)]
        repair = repaired(base.snapshot(), Paper(2, query, both))
        self.assertEqual([(0, 0), (0, 1)], repair.lost())
        self.assertEqual([(1, 1)], repair.found())

    def test_no_variables(self):
        base = one_table(1)
        query = Query.read("r(1), not r(2)")
        paper = Paper(2, query, [("gap", 0, box("0")), ("part", 0, box()), ("part", 1, box())])
        self.check(base, paper, "point -\npart 0 -\npart 1 -\n", found=[()], probed=[()])
        self.check(base, Paper(2, query, [("row", 1, (2,))]), "point -\n", found=[()], probed=[()])
        self.check(base, Paper(2, Query.read("r(0)"), [("point", ())]), "gap 0 00\n", lost=[()], probed=[()])


class SlowTest(unittest.TestCase):
    """All repairs are those that the words of the document give, line by line."""

    TEXTS = ("r(x,y)", "r(x,y), not s(y), x < y", "not r(x,x), s(x)", "r(x,y), s(x) by y,x", "t(x,1,y), not s(x)",
             "s(x), not s(y)", "r(1,2), not s(0)", "x != y, r(y,x), not r(x,y)", "not s(x)")
    LONGER_TEXTS = ("r(x,y), r(y,z)", "t(x,y,z), not r(z,x) by z,x,y", "r(x,y), s(z), y < z")

    def compare(self, base, model, version, paper):
        source = base.snapshot(version)
        repair = repaired(source, paper)
        lines, lost, found, probed = slow_repair(model, version, paper)
        self.assertEqual(lines, repair.paper.lines())
        self.assertEqual((lost, found, probed), (repair.lost(), repair.found(), repair.probed()))
        self.assertIs(lost + found != [], repair.is_changed)
        self.check_guarantees(source, paper, repair)
        return repair

    def check_guarantees(self, source, paper, repair):
        new, old = repair.paper, paper.trimmed()
        self.assertEqual((paper.bits, paper.query, paper.closing), (new.bits, new.query, new.closing))
        self.assertTrue(new.is_trimmed)
        self.assertIsNone(wrong_line(source, new))
        kept = [point for point in old.points() if point not in repair.lost()]
        self.assertEqual(new.points(), sorted(kept + repair.found()))
        self.assertEqual([], [point for point in repair.lost() if point in new.points()])
        broken = [old.box(number) for number in broken_lines(source, old)]
        for point in repair.probed():
            self.assertTrue(any(part.holds(point) for part in broken))
        answer = [point for point in plain_answer(source, paper.query) if new.closing.holds(point)]
        self.assertEqual(answer, [point for point in new.points() if new.closing.holds(point)])

    def test_one_commit_after_another(self):
        changed = 0
        for seed, text in enumerate(self.TEXTS):
            query = Query.read(text)
            base, model = filled_pair(seed, 2, 1, 20)
            paper = paper_of(base.snapshot(), query)
            numbers = Numbers(seed)
            for _ in range(25):
                commit_to_both(base, model, some_writes(numbers, model, numbers.below(4) + 1))
                repair = self.compare(base, model, base.version, paper)
                changed += repair.is_changed
                paper = repair.paper
                self.assertEqual(plain_answer(base.snapshot(), query), paper.points())
                self.assertEqual(paper_of(base.snapshot(), query).points(), paper.points())
        self.assertGreater(changed, 50)

    def test_longer_queries(self):
        for seed, text in enumerate(self.LONGER_TEXTS):
            query = Query.read(text)
            base, model = filled_pair(seed + 40, 2, 6, 8)
            for version in (2, 4):
                paper = paper_of(base.snapshot(version), query)
                for other in (0, 3, 6):
                    self.compare(base, model, other, paper)

    def test_each_version_from_each_version(self):
        for seed, text in enumerate(self.TEXTS):
            query = Query.read(text)
            base, model = filled_pair(seed + 60, 2, 6, 3)
            papers = [paper_of(base.snapshot(version), query) for version in range(7)]
            for paper in papers:
                for version in range(7):
                    self.compare(base, model, version, paper)

    def test_papers_for_a_box(self):
        query = Query.read("r(x,y), not s(y), x < y")
        base, model = filled_pair(3, 2, 4, 6)
        for closing in all_boxes(2, 2)[::3]:
            paper = paper_of(base.snapshot(2), query, box=closing)
            for version in (1, 4):
                repair = self.compare(base, model, version, paper)
                expected = [point for point in plain(model, version, query) if closing.holds(point)]
                # A broken gap can reach beyond the closing box, and points are found in all of it.
                self.assertEqual(expected, [point for point in repair.paper.points() if closing.holds(point)])

    def test_papers_of_any_kind(self):
        numbers, differ = Numbers(31), 0
        for seed in range(40):
            query = Query.read(numbers.one_of(self.TEXTS))
            base, model = filled_pair(seed + 80, 2, 6, 4)
            start = paper_of(base.snapshot(numbers.below(7)), query).lines()
            if numbers.below(4) == 0:
                start = [("point", tuple(numbers.below(4) for _ in query.variables))]
            paper = some_paper(numbers, 2, query, start, numbers.below(12))
            for _ in range(4):
                version = numbers.below(7)
                repair = self.compare(base, model, version, paper)
                self.assertEqual(repair.paper, repaired(base.snapshot(version), paper.trimmed()).paper)
                differ += repair.paper.lines() != slow_paper(model, version, query)[0]
        self.assertGreater(differ, 30)

    def test_many_commits_between(self):
        base, model = filled_pair(33, 3, 60, 2)
        query = Query.read("r(x,y), not s(y)")
        paper = paper_of(base.snapshot(10), query)
        for version in (60, 35, 10, 0):
            self.compare(base, model, version, paper)
        base.forget(60)
        self.compare(base, model, 60, paper)

    def test_a_repaired_paper_again(self):
        base, model = filled_pair(34, 2, 5, 5)
        query = Query.read("r(x,y), not s(y)")
        paper = repaired(base.snapshot(), paper_of(base.snapshot(1), query)).paper
        repair = self.compare(base, model, 5, paper)
        self.assertEqual((paper, [], [], [], False),
                         (repair.paper, repair.lost(), repair.found(), repair.probed(), repair.is_changed))

    def test_no_limit_of_lines(self):
        base = Base(10)
        base.add_table("r", 1)
        base.commit([("insert", "r", (value,), 0) for value in range(1024)])
        query = Query.read("not r(x)")
        paper = Paper(10, query, [("row", 0, (0,))])
        self.assertEqual("0000000000", str(repaired(base.snapshot(), paper).paper.closing))
        empty = Base(10)
        empty.add_table("r", 1)
        whole = paper_of(base.snapshot(), query, limit=2047)
        repair = repaired(empty.snapshot(), whole)
        self.assertEqual(2047, len(repair.paper))
        self.assertEqual([(value,) for value in range(1024)], repair.found())


class RepairTest(unittest.TestCase, Raises):

    def repair(self):
        base = one_table(0)
        paper = paper_of(base.snapshot(), QUERY)
        base.commit([("delete", "r", (0,)), ("insert", "r", (3,), 0)])
        return repaired(source=base.snapshot(), paper=paper)

    def test_returned_lists_are_new(self):
        repair = self.repair()
        for call, expected in ((repair.lost, [(0,)]), (repair.found, [(3,)]), (repair.probed, [(0,), (2,), (3,)])):
            one, other = call(), call()
            self.assertIs(list, type(one))
            self.assertIsNot(one, other)
            one.clear()
            self.assertEqual([expected, expected], [other, call()])
        self.assertIs(True, repair.is_changed)

    def test_equal_only_to_itself(self):
        repair = self.repair()
        self.assertTrue(repair == repair)
        self.assertFalse(repair == self.repair())

    def test_the_paper_stays_as_it_is(self):
        base = one_table(0)
        paper = paper_of(base.snapshot(), QUERY)
        text = str(paper)
        base.commit([("delete", "r", (0,))])
        repaired(base.snapshot(), paper)
        self.assertEqual(text, str(paper))

    def test_changes_back_and_forth(self):
        # The answer is the same again, but the paper was broken at another version in between.
        base = one_table(0)
        paper = paper_of(base.snapshot(), QUERY)
        base.commit([("delete", "r", (0,))])
        base.commit([("insert", "r", (0,), 9)])
        repair = repaired(base.snapshot(), paper)
        self.assertEqual((paper, False, []), (repair.paper, repair.is_changed, repair.probed()))

    def test_what_does_not_fit(self):
        source = one_table(0).snapshot()
        paper = Paper(3, QUERY, [("point", (0,))])
        self.must_raise(Unlike, {}, repaired, source, paper)
        self.must_raise(Unlike, {}, repaired, source, Paper(3, Query.read("u(x)"), [("point", (0,))]))
        for text, kind, told in (("u(x)", UnknownTable, {"value": "u"}), ("r(x,x)", WrongColumns, {"position": 0}),
                                 ("x != 4", InvalidValue, {"value": 4})):
            self.must_raise(kind, told, repaired, source, Paper(2, Query.read(text), [("point", (3,))]))

    def test_another_source(self):
        paper = paper_of(one_table(0).snapshot(), QUERY)
        other = Base(2)
        other.add_table("s", 4)
        self.must_raise(UnknownTable, {"value": "r"}, repaired, other.snapshot(), paper)
        other.add_table("r", 1)
        repair = repaired(other.snapshot(), paper)
        self.assertEqual(([(0,)], []), (repair.lost(), repair.paper.points()))

    def test_forgotten_versions(self):
        base = one_table(0)
        source = base.snapshot()
        paper = paper_of(source, QUERY)
        base.commit([("delete", "r", (0,))])
        base.forget(2)
        self.must_raise(TooOld, {"least": 2}, repaired, source, paper)
        query = Query.read("r(x), x < x")
        false = Paper(2, query, [("false", 1, box("")), ("point", (0,)), ("part", 0, box("1"))])
        self.assertEqual("false 1 *\npart 0 1\n", str(repaired(source, false).paper))
        self.assertEqual([(0,)], repaired(base.snapshot(), paper).lost())


if __name__ == "__main__":
    unittest.main()
