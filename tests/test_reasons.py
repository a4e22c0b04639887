"""Point [36]: why a point is in an answer, why not, and what writes would change."""

import unittest

from coverstore.bases import Base
from coverstore.boxes import Box
from coverstore.engine import paper_of
from coverstore.errors import InvalidPoint, InvalidWrite, IsAnswer, KeyTaken, NoSuchRow, NotAnswer
from coverstore.evaluating import literal_holds
from coverstore.keepers import Keeper
from coverstore.papers import Paper
from coverstore.queries import Query
from coverstore.reasons import what_if, why, why_not

from helpers import NOT_LISTS, NOT_TUPLES, EqualsAll, Numbers, Raises, all_points
from model import commit_to_both, filled_pair, some_writes
from slow import put_in, some_paper
from slow_store import answer_at, performed

TEXTS = (
    "r(x,y), not s(y)", "r(x,y), r(y,x)", "not r(x,x), s(x), x != 2", "t(x,y,x), x < y by y,x", "not s(1), r(2,3)",
    "x < y, y != 3", "s(x), not s(y), y < x", "not r(1,2), r(2,2)", "2 <= x", "r(x,3), not t(3,x,x)",
)


class WhyTest(unittest.TestCase, Raises):

    def test_each_literal_in_sequence(self):
        paper = Paper(2, Query.read("r(x,y), x < y, not s(y), r(3,x), 1 <= y, not r(y,y)"), [("point", (1, 2))])
        expected = [(0, (1, 2)), (2, (2,)), (3, (3, 1)), (5, (2, 2))]
        self.assertEqual(expected, why(paper, (1, 2)))
        self.assertEqual(expected, why(paper=paper, point=(1, 2)))

    def test_no_positive_or_denied_literal(self):
        self.assertEqual([], why(Paper(2, Query.read("x < y"), [("point", (1, 2))]), (1, 2)))

    def test_no_variables(self):
        self.assertEqual([(0, (1,)), (1, (2, 3))], why(Paper(2, Query.read("s(1), not r(2,3)"), [("point", ())]), ()))

    def test_the_order_of_the_variables(self):
        self.assertEqual([(0, (2, 1))], why(Paper(2, Query.read("r(x,y) by y,x"), [("point", (1, 2))]), (1, 2)))

    def test_every_point(self):
        many = 0
        for seed in range(8):
            base, _ = filled_pair(seed, 2, 2, 14)
            for text in TEXTS:
                query = Query.read(text)
                paper = paper_of(base.snapshot(), query)
                for point in all_points(2, len(query.variables)):
                    if point not in paper.points():
                        self.must_raise(NotAnswer, {"point": point}, why, paper, point)
                        continue
                    many += 1
                    expected = [(position, put_in(literal, query.variables, point))
                                for position, literal in enumerate(query.literals()) if literal[0] in ("row", "none")]
                    self.assertEqual(expected, why(paper, point))
                    for table_position, key in expected:
                        kind, table, _ = query.literals()[table_position]
                        self.assertIs(kind == "row", base.payload(table, key) is not None)
        self.assertGreater(many, 80)

    def test_points_of_lines_that_are_not_needed(self):
        paper = Paper(2, Query.read("s(x)"), [("point", (3,)), ("point", (1,))])
        self.assertEqual([(0, (3,))], why(paper, (3,)))

    def test_no_points(self):
        paper = Paper(2, Query.read("s(x), 0 <= y"), [("point", (1, 0)), ("point", (2, 3))])
        for point in ((), (1,), (1, 0, 0), (1, 1), (True, 0), (1, False), (4, 0), (-1, 0), ((1, 0),), ("1", "0"),
                      (EqualsAll(), 0), EqualsAll(), [1, 0]) + NOT_TUPLES:
            self.must_raise(NotAnswer, {"point": point}, why, paper, point)

    def test_returned_lists_are_new(self):
        paper = Paper(2, Query.read("s(x)"), [("point", (3,))])
        one = why(paper, (3,))
        one.clear()
        self.assertEqual([(0, (3,))], why(paper, (3,)))


class WhyNotTest(unittest.TestCase, Raises):

    def test_each_kind_of_line(self):
        query = Query.read("r(x,y), not s(y), x < y")
        half = Box(1, ["0", ""])
        lines = [("gap", 0, half), ("row", 1, (1,)), ("point", (1, 0)), ("join", 2, 1, 1), ("join", 0, 3, 0)]
        paper = Paper(1, query, lines)
        self.assertEqual({(0, 0): (0, 0), (0, 1): (0, 0), (1, 1): (1, 1)},
                         {point: why_not(paper, point) for point in ((0, 0), (0, 1), (1, 1))})
        self.must_raise(IsAnswer, {"point": (1, 0)}, why_not, paper, (1, 0))
        false = Paper(1, query, [("false", 2, Box(1, ["1", ""]))])
        self.assertEqual((0, 2), why_not(paper=false, point=(1, 1)))

    def test_the_line_that_contains_the_point(self):
        # The boxes of two lines that are joined never have a point in common: they differ at the place of the join.
        query = Query.read("r(x,y)")
        lines = [("gap", 0, Box(2, ["0", ""])), ("gap", 0, Box(2, ["1", "1"])), ("join", 0, 1, 0),
                 ("part", 2, Box(2, ["", "11"]))]
        paper = Paper(2, query, lines)
        self.assertEqual([(0, 0), (1, 0)], [why_not(paper, (1, 3)), why_not(paper, (2, 3))])
        self.must_raise(InvalidPoint, {"value": (1, 1)}, why_not, paper, (1, 1))

    def test_part_lines(self):
        query = Query.read("not s(x)")
        paper = Paper(1, query, [("row", 0, (1,)), ("part", 0, Box(1, ["1"])), ("part", 1, Box(1, ["1"]))])
        self.assertEqual((0, 0), why_not(paper, (1,)))
        self.must_raise(InvalidPoint, {"value": (0,)}, why_not, paper, (0,))

    def test_every_point(self):
        kinds = {"gap": 0, "row": 0, "false": 0}
        for seed in range(8):
            base, _ = filled_pair(seed, 2, 2, 14)
            for text in TEXTS:
                query = Query.read(text)
                self.check_all(base.snapshot(), paper_of(base.snapshot(), query), kinds)
                for box in (["0"], ["", "1"], ["01", "1"], ["1", "", "11"], ["00", "01"]):
                    if len(box) == len(query.variables):
                        paper = paper_of(base.snapshot(), query, box=Box(2, box))
                        self.check_all(base.snapshot(), paper, kinds)
        self.assertGreater(min(kinds.values()), 100)

    def test_papers_with_further_lines(self):
        numbers = Numbers(40)
        base, _ = filled_pair(3, 2, 2, 14)
        for text in TEXTS:
            query = Query.read(text)
            if query.variables:
                paper = some_paper(numbers, 2, query, paper_of(base.snapshot(), query).lines(), 6)
                self.check_all(None, paper, {"gap": 0, "row": 0, "false": 0})

    def check_all(self, source, paper, kinds):
        """Each point of the space is explained as the document says."""
        query, lines = paper.query, paper.lines()
        for point in all_points(2, len(query.variables)):
            if not paper.closing.holds(point):
                self.must_raise(InvalidPoint, {"value": point}, why_not, paper, point)
                continue
            if point in paper.points():
                self.must_raise(IsAnswer, {"point": point}, why_not, paper, point)
                continue
            at = len(lines) - 1
            while lines[at][0] in ("join", "part"):
                at = next(named for named in lines[at][1:-1] if paper.box(named).holds(point))
            kinds[lines[at][0]] += 1
            self.assertEqual((at, lines[at][1]), why_not(paper, point))
            self.assertTrue(paper.box(at).holds(point))
            if source is not None:
                self.assertIs(False, literal_holds(source, query, lines[at][1], point))

    def test_no_points_of_the_box(self):
        base = Base(2)
        base.add_table("r", 2)
        base.commit([("insert", "r", (1, 1), 0), ("insert", "r", (3, 0), 0)])
        paper = paper_of(base.snapshot(), Query.read("r(x,y)"), box=Box(2, ["0", ""]))
        for point in ((), (1,), (1, 0, 0), (2, 0), (3, 0), (True, 0), (1, False), (4, 0), (-1, 0), ("1", "0"),
                      (EqualsAll(), 0), EqualsAll(), [1, 0], (True, True)) + NOT_TUPLES:
            self.must_raise(InvalidPoint, {"value": point}, why_not, paper, point)
        self.must_raise(IsAnswer, {"point": (1, 1)}, why_not, paper, (1, 1))
        # A point of the paper outside its closing box is no point of this box.
        other = Paper(2, Query.read("s(x)"), [("point", (3,)), ("gap", 0, Box(2, ["0"]))])
        self.must_raise(InvalidPoint, {"value": (3,)}, why_not, other, (3,))
        # A point line that is not needed counts, too.
        other = Paper(2, Query.read("s(x)"), [("point", (1,)), ("gap", 0, Box(2, ["0"]))])
        self.must_raise(IsAnswer, {"point": (1,)}, why_not, other, (1,))


class WhatIfTest(unittest.TestCase, Raises):

    def small(self):
        base = Base(2)
        base.add_table("r", 1)
        base.add_table("s", 1)
        base.commit([("insert", "r", (1,), 0), ("insert", "r", (2,), 0)])
        keeper = Keeper(base)
        for name, text in (("c", "r(x)"), ("b", "s(x)"), ("a", "r(x), not s(x)"), ("d", "x < 2")):
            keeper.keep(name, Query.read(text))
        return base, keeper

    def told(self, keeper):
        return [(name, keeper.kept_paper(name), keeper.version_of(name)) for name in keeper.names()]

    def test_lost_and_found(self):
        _, keeper = self.small()
        self.assertEqual([("c", [(1,)], [(0,), (3,)]), ("a", [(1,)], [(0,), (3,)])],
                         what_if(keeper, [("insert", "r", (3,), 0), ("delete", "r", (1,)), ("insert", "r", (0,), 1)]))
        self.assertEqual([("b", [], [(2,)]), ("a", [(2,)], [])], what_if(keeper, [("insert", "s", (2,), 0)]))
        self.assertEqual([("b", [], [(3,)])], what_if(keeper=keeper, writes=(("insert", "s", (3,), 0),)))

    def test_nothing_would_change(self):
        _, keeper = self.small()
        for writes in ([], (), [("update", "r", (1,), 9)], [("insert", "s", (2,), 0), ("delete", "s", (2,))],
                       [("delete", "r", (1,)), ("insert", "r", (1,), 7)]):
            self.assertEqual([], what_if(keeper, writes))
        self.assertEqual([], what_if(Keeper(self.small()[0]), [("delete", "r", (1,))]))

    def test_nothing_changes(self):
        base, keeper = self.small()
        base.commit([("insert", "s", (1,), 0)])
        keeper.catch_up("b")
        base.commit([("insert", "r", (3,), 0)])
        before, version = self.told(keeper), base.version
        rows = [base.rows("r"), base.rows("s")]
        what_if(keeper, [("delete", "s", (1,)), ("insert", "r", (0,), 0)])
        self.assertEqual((before, version, rows), (self.told(keeper), base.version, [base.rows("r"), base.rows("s")]))

    def test_against_the_newest_version(self):
        base, keeper = self.small()
        base.commit([("insert", "r", (3,), 0), ("delete", "r", (1,))])
        # The kept papers are those of version 1; only what these writes change is told.
        self.assertEqual([("c", [(3,)], [(0,)]), ("a", [(3,)], [(0,)])],
                         what_if(keeper, [("delete", "r", (3,)), ("insert", "r", (0,), 0)]))
        self.assertEqual([("c", [], [(1,)]), ("a", [], [(1,)])], what_if(keeper, [("insert", "r", (1,), 0)]))
        self.assertEqual([1, 1, 1, 1], [keeper.version_of(name) for name in keeper.names()])

    def test_a_kept_version_that_was_forgotten(self):
        base, keeper = self.small()
        base.commit([("insert", "r", (3,), 0)])
        base.forget(2)
        self.assertEqual([("c", [(3,)], []), ("a", [(3,)], [])], what_if(keeper, [("delete", "r", (3,))]))

    def test_the_sequence_of_the_names(self):
        _, keeper = self.small()
        query = keeper.kept_query("c")
        keeper.release("c")
        keeper.keep("c", query)
        self.assertEqual(["a", "c"], [name for name, _, _ in what_if(keeper, [("delete", "r", (1,))])])

    def test_errors(self):
        _, keeper = self.small()
        before = self.told(keeper)
        for writes in NOT_LISTS + (EqualsAll(),):
            self.must_raise(InvalidWrite, {"position": -1}, what_if, keeper, writes)
        for wrong in (None, (), ("insert", "u", (0,), 0), ("insert", "r", (4,), 0), ("insert", "r", (0,), True),
                      ["delete", "r", (1,)], EqualsAll(), ("delete", "r", [1])):
            self.must_raise(InvalidWrite, {"position": 1}, what_if, keeper, [("insert", "r", (1,), 0), wrong, wrong])
        self.must_raise(KeyTaken, {"table": "r", "key": (1,)}, what_if, keeper,
                        [("insert", "s", (1,), 0), ("insert", "r", (1,), 0), ("delete", "r", (0,))])
        self.must_raise(NoSuchRow, {"table": "r", "key": (0,)}, what_if, keeper,
                        [("update", "r", (0,), 0), ("insert", "r", (1,), 0)])
        self.assertEqual(before, self.told(keeper))

    def test_returned_lists_are_new(self):
        _, keeper = self.small()
        writes = [("delete", "r", (1,))]
        one, other = what_if(keeper, writes), what_if(keeper, writes)
        self.assertEqual((list, tuple, list, list), (type(one), type(one[0]), type(one[0][1]), type(one[0][2])))
        self.assertEqual(4, len({id(part) for _, lost, found in one for part in (lost, found)}))
        for _, lost, found in one:
            lost.clear()
            found.append(0)
        self.assertEqual([("c", [(1,)], []), ("a", [(1,)], [])], other)
        self.assertEqual(other, what_if(keeper, writes))

    def test_compared(self):
        numbers, changes = Numbers(41), 0
        base, model = filled_pair(4, 2, 1, 14)
        keeper = Keeper(base)
        queries = {name: Query.read(text) for name, text in zip("dcbaefghij", TEXTS)}
        for name, query in queries.items():
            keeper.keep(name, query)
        for _ in range(50):
            writes = some_writes(numbers, model, numbers.below(6))
            rows = model.versions[-1]
            after = rows
            for write in writes:
                after = performed(after, write)[0]
            expected = []
            for name, query in queries.items():
                before, then = set(answer_at(model, rows, query)), set(answer_at(model, after, query))
                if before != then:
                    expected.append((name, sorted(before - then), sorted(then - before)))
            told = self.told(keeper)
            self.assertEqual(expected, what_if(keeper, writes))
            self.assertEqual(told, self.told(keeper))
            changes += len(expected)
            commit_to_both(base, model, some_writes(numbers, model, numbers.below(4)))
            keeper.catch_up(*[name for name in queries if numbers.below(4) == 0])
        self.assertGreater(changes, 40)


if __name__ == "__main__":
    unittest.main()
