"""Points [4] and [25] to [27]: covers, papers of queries, the best order."""

import itertools
import unittest

from coverstore.bases import Base
from coverstore.boxes import Box
from coverstore.checks import accepts, wrong_line
from coverstore.engine import best_order, paper_of
from coverstore.errors import InvalidLimit, InvalidValue, TooMany, TooOld, UnknownTable, Unlike, WrongColumns
from coverstore.evaluating import plain_answer
from coverstore.papers import Paper
from coverstore.queries import Query

from helpers import NOT_INTEGERS, EqualsAll, Numbers, Raises, all_boxes
from model import FORMS, Model, commit_to_both, filled_pair
from slow import plain, slow_best_order, slow_paper

# With one to four variables, with and without comparisons, several orders, integers, variables that stand twice.
TEXTS = (
    "r(x,y)", "r(x,y) by y,x", "not r(x,y)", "r(x,x)", "not r(x,x), s(x)", "r(x,y), not s(y), x < y", "s(x), not s(y)",
    "r(x,y), r(y,x), x != y", "x <= y, r(x,y)", "x < y", "x = y by y,x", "x != 2, r(x,3)", "r(1,x), not r(x,1)",
    "2 < x, x != y, s(y) by y,x", "r(1,2)", "not r(1,2), s(3)", "not s(0)", "x != x, s(x)", "x <= x, s(x)",
)
LONGER_TEXTS = (
    "r(x,y), r(y,z)", "r(x,y), r(y,z), r(z,x) by z,x,y", "t(x,y,z)", "t(x,y,z), not r(x,z) by y,x,z",
    "not t(x,y,x), s(y)",
    "t(z,x,y), z < y", "r(x,y), s(z), not r(z,y)", "x < y, y < z, t(x,y,z)", "not t(x,y,z), s(x)", "t(x,1,y), r(y,w)",
    "r(x,y), x < z, z < w, s(w) by w,z,y,x",
)


def text_of(base, query, **named):
    return str(paper_of(base.snapshot(), query, **named))


class WorkedOutTest(unittest.TestCase):
    """Papers that were worked out by hand."""

    def base(self, bits, columns, *keys, orders=()):
        base = Base(bits)
        base.add_table("r", columns, *orders)
        base.commit([("insert", "r", key, 0) for key in keys])
        return base

    def test_an_empty_table(self):
        self.assertEqual("gap 0 *,*\n", text_of(self.base(2, 2), Query.read("r(x,y)")))

    def test_one_row(self):
        base = self.base(1, 1, (1,))
        self.assertEqual("gap 0 0\npoint 1\njoin 0 1 0\n", text_of(base, Query.read("r(x)")))
        # The row is met at the last point.
        self.assertEqual("point 0\nrow 0 1\njoin 0 1 0\n", text_of(base, Query.read("not r(x)")))

    def test_two_orders(self):
        base = self.base(2, 2, (1, 2), orders=((1, 0),))
        expected = ("gap 0 *,0\ngap 0 00,*\npoint 1,2\ngap 0 *,11\njoin 2 3 1\njoin 0 4 1\njoin 1 5 0\ngap 0 1,*\n"
                    "join 6 7 0\n")
        self.assertEqual(expected, text_of(base, Query.read("r(x,y)")))

    def test_one_order(self):
        base = self.base(2, 2, (1, 2))
        expected = ("gap 0 00,*\ngap 0 01,0\npoint 1,2\ngap 0 01,11\njoin 2 3 1\njoin 1 4 1\njoin 0 5 0\ngap 0 1,*\n"
                    "join 6 7 0\n")
        self.assertEqual(expected, text_of(base, Query.read("r(x,y)")))

    def test_ties_between_orders(self):
        base = self.base(1, 2, (1, 1), orders=((1, 0),))
        self.assertTrue(text_of(base, Query.read("r(x,y)")).startswith("gap 0 0,*\n"))
        # Around (0, 1) the gap of the second order has one point, that of the first one two.
        self.assertEqual("gap 0 0,*\npart 0 0,1\n", text_of(base, Query.read("r(x,y)"), box=Box(1, ["0", "1"])))
        # Around (1, 0) it is the other way round.
        self.assertEqual("gap 0 *,0\npart 0 1,0\n", text_of(base, Query.read("r(x,y)"), box=Box(1, ["1", "0"])))

    def test_the_most_points_after_laying_over(self):
        # Around (0, 0) the gaps are 0*,* and *,00 of columns; with the integer 0 the second one is laid over to more.
        base = self.base(2, 2, (2, 1), (3, 2), orders=((1, 0),))
        self.assertEqual(["0,*", "*,00"], [str(gap) for gap in base.snapshot().gaps("r", (0, 0))])
        self.assertEqual("gap 0 *,00\n", text_of(base, Query.read("r(x,0)")))
        self.assertEqual("gap 0 0,*\n", text_of(base, Query.read("r(0,y)")))
        self.assertEqual("gap 0 0,*\npart 0 00,00\n", text_of(base, Query.read("r(x,y)"), box=Box(2, ["00", "00"])))

    def test_the_first_literal_that_fails(self):
        base = self.base(1, 1)
        self.assertEqual("gap 0 *\n", text_of(base, Query.read("r(x), x != x")))
        self.assertEqual("false 0 *\n", text_of(base, Query.read("x != x, r(x)")))
        self.assertEqual("gap 0 *\n", text_of(base, Query.read("r(x), 0 < x")))

    def test_halves_that_contain_the_box_itself(self):
        # The false box around 0 is the half; the gap around 1 is the whole box, so nothing is joined.
        base = self.base(1, 1)
        paper = paper_of(base.snapshot(), Query.read("0 < x, r(x)"), limit=2)
        self.assertEqual([("gap", 1, Box(1, [""]))], paper.lines())

    def test_earlier_lines_first(self):
        base = self.base(2, 1, (0,))
        expected = "point 0\ngap 0 01\njoin 0 1 0\ngap 0 1\njoin 2 3 0\n"
        self.assertEqual(expected, text_of(base, Query.read("r(x)")))

    def test_no_variables(self):
        base = self.base(2, 2, (1, 2))
        self.assertEqual("point -\n", text_of(base, Query.read("r(1,2)")))
        self.assertEqual("gap 0 01,11\n", text_of(base, Query.read("r(1,3)")))
        self.assertEqual("row 0 1,2\n", text_of(base, Query.read("not r(1,2), r(1,3)")))
        self.assertEqual("point -\n", text_of(base, Query.read("not r(2,2), not r(1,3)")))

    def test_variables_of_denied_literals_alone(self):
        base = self.base(1, 1, (0,))
        expected = "row 1 0\npoint 0,1\njoin 0 1 1\ngap 0 1\njoin 2 3 0\n"
        self.assertEqual(expected, text_of(base, Query.read("r(x), not r(y)")))

    def test_false_boxes(self):
        base = self.base(2, 1)
        expected = ("false 0 00,00\npoint 0,1\njoin 0 1 1\npoint 0,2\npoint 0,3\njoin 3 4 1\njoin 2 5 1\n"
                    "false 0 01,00\nfalse 0 01,01\njoin 7 8 1\npoint 1,2\npoint 1,3\njoin 10 11 1\njoin 9 12 1\n"
                    "join 6 13 0\nfalse 0 1,0\nfalse 0 10,10\npoint 2,3\njoin 16 17 1\njoin 15 18 1\n"
                    "false 0 11,10\nfalse 0 11,11\njoin 20 21 1\njoin 15 22 1\njoin 19 23 0\njoin 14 24 0\n")
        self.assertEqual(expected, text_of(base, Query.read("x < y")))


class SlowTest(unittest.TestCase, Raises):
    """All papers are those that the words of the document give, line by line."""

    def compare(self, base, model, version, query, box=None):
        expected, count, _ = slow_paper(model, version, query, None if box is None else box.ranges)
        source = base.snapshot(version)
        paper = paper_of(source, query, box=box)
        self.assertIs(Paper, type(paper))
        self.assertEqual(expected, paper.lines())
        self.assertEqual((base.bits, query), (paper.bits, paper.query))
        self.assertTrue(paper.is_trimmed)
        self.assertIsNone(wrong_line(source, paper))
        answer = [point for point in plain(model, version, query) if paper.closing.holds(point)]
        self.assertEqual(answer, paper.points())
        whole = Box.whole(base.bits, len(query.variables))
        self.assertEqual(whole if box is None else box, paper.closing)
        self.assertIs(paper.closing == whole, accepts(source, query, answer, paper))
        return count

    def test_short_queries(self):
        for seed, (text, bits) in enumerate(itertools.product(TEXTS, (2, 3))):
            base, model = filled_pair(seed, bits, 2, 9 * bits)
            for version in range(3):
                self.compare(base, model, version, Query.read(text))

    def test_longer_queries(self):
        for seed, text in enumerate(LONGER_TEXTS):
            base, model = filled_pair(seed + 100, 2, 2, 30)
            for version in (1, 2):
                self.compare(base, model, version, Query.read(text))

    def test_five_variables(self):
        base, model = filled_pair(7, 1, 2, 8)
        for text in ("t(a,b,c), r(c,d), not s(e)", "r(a,b), r(c,d), a < e by e,d,c,b,a", "not t(a,b,c), not r(d,e)"):
            self.compare(base, model, 2, Query.read(text))

    def test_limits_before_trimming(self):
        longer = 0
        for seed, text in enumerate(TEXTS + LONGER_TEXTS[:4]):
            base, model = filled_pair(seed + 50, 2, 1, 20)
            query = Query.read(text)
            expected, count, _ = slow_paper(model, 1, query)
            longer += count > len(expected)
            source = base.snapshot()
            self.assertEqual(expected, paper_of(source, query, limit=count).lines())
            for limit in (1, count - 1):
                if 0 < limit < count:
                    self.must_raise(TooMany, {"kind": "lines", "limit": limit}, paper_of, source, query, limit=limit)
        self.assertGreater(longer, 2)

    def test_all_boxes(self):
        base, model = filled_pair(5, 2, 2, 14)
        appended = 0
        for text in ("r(x,y)", "r(x,y), not s(y), x < y by y,x", "not r(x,x), s(y)", "s(x)", "x <= y, r(y,3)"):
            query = Query.read(text)
            for box in all_boxes(2, len(query.variables)):
                self.compare(base, model, 2, query, box)
                appended += paper_of(base.snapshot(), query, box=box).lines()[-1][0] == "part"
        self.assertGreater(appended, 50)
        self.compare(base, model, 2, Query.read("r(1,2)"), Box(2))

    def test_limits_with_a_part_line(self):
        base = Base(2)
        base.add_table("r", 2)
        source, query, box = base.snapshot(), Query.read("r(x,y)"), Box(2, ["0", ""])
        self.assertEqual("gap 0 *,*\npart 0 0,*\n", str(paper_of(source, query, box=box, limit=2)))
        self.must_raise(TooMany, {"kind": "lines", "limit": 1}, paper_of, source, query, box=box, limit=1)
        self.assertEqual("gap 0 *,*\n", str(paper_of(source, query, limit=1)))

    def test_great_spaces_with_few_rows(self):
        base, model = Base(10), Model(10)
        for name, orders in FORMS.items():
            for one in (base, model):
                one.add_table(name, len(orders[0]), *orders[1:])
        writes = [("insert", "r", key, 1) for key in ((5, 700), (5, 3), (1023, 5), (700, 1023))]
        writes += [("insert", "t", key, 1) for key in ((5, 700, 5), (0, 0, 1023))] + [("insert", "s", (3,), 0)]
        commit_to_both(base, model, writes)
        for text, answer in (("r(x,y)", [(5, 3), (5, 700), (700, 1023), (1023, 5)]),
                             ("r(x,y), r(y,z), t(x,y,x)", [(5, 700, 1023)]),
                             ("r(a,b), r(b,c), r(c,d), not s(d), d < e, e = 900",
                              [(5, 700, 1023, 5, 900), (700, 1023, 5, 700, 900)]),
                             ("t(x,y,x), not s(y), 700 <= y by y,x", [(700, 5)]),
                             ("r(x,1023), r(x,y) by y,x", [(1023, 700)])):
            query = Query.read(text)
            expected, count, _ = slow_paper(model, 1, query)
            paper = paper_of(base.snapshot(), query)
            self.assertEqual(expected, paper.lines())
            self.assertEqual(answer, paper.points())
            self.assertIs(True, accepts(base.snapshot(), query, answer, paper))
            self.assertLessEqual(count, 2000)

    def test_equal_results_again(self):
        source = filled_pair(9, 2)[0].snapshot()
        for text in TEXTS:
            query = Query.read(text)
            self.assertEqual(paper_of(source, query), paper_of(source, query))


class ErrorsTest(unittest.TestCase, Raises):

    def source(self):
        base = Base(3)
        base.add_table("r", 2)
        return base.snapshot()

    def test_queries_first(self):
        for text, kind, told in (("u(x)", UnknownTable, {"value": "u"}), ("r(x)", WrongColumns, {"position": 0}),
                                 ("x < 8", InvalidValue, {"value": 8}), ("r(x,9), u(x)", InvalidValue, {"value": 9}),
                                 ("a < b, c < d, e < 9", InvalidValue, {"value": 9})):
            query = Query.read(text)
            self.must_raise(kind, told, paper_of, self.source(), query, box=7, limit=0)
            self.must_raise(kind, told, best_order, self.source(), query, limit=0)

    def test_boxes_second(self):
        for box in (Box(3), Box.whole(3, 1), Box.whole(3, 3), Box.whole(2, 2), Box.whole(4, 2), True, 0, "", "*,*", (),
                    ("", ""), [], EqualsAll(), Box):
            self.must_raise(Unlike, {}, paper_of, self.source(), Query.read("r(x,y)"), box=box, limit=0)
        self.must_raise(Unlike, {}, paper_of, self.source(), Query.read("r(1,1)"), box=Box.whole(3, 1))

    def test_limits_third(self):
        query = Query.read("r(x,y)")
        for limit in (0, -1, 100001, 2 ** 70, EqualsAll()) + NOT_INTEGERS:
            self.must_raise(InvalidLimit, {"value": limit}, paper_of, self.source(), query, limit=limit)
            box = Box(3, ["", "1"])
            self.must_raise(InvalidLimit, {"value": limit}, paper_of, self.source(), query, box=box, limit=limit)
            self.must_raise(InvalidLimit, {"value": limit}, best_order, self.source(), query, limit=limit)
        for limit in (1, 100000):
            self.assertEqual(1, len(paper_of(self.source(), query, limit=limit)))
            self.assertEqual(("x", "y"), best_order(self.source(), query, limit=limit))

    def test_the_usual_limit(self):
        # Each of the 1024 points is a line, and they are joined by 1023 lines.
        source = Base(10).snapshot()
        self.must_raise(TooMany, {"kind": "lines", "limit": 2000}, paper_of, source, Query.read("x <= x"))
        self.must_raise(TooMany, {"kind": "lines", "limit": 2000}, best_order, source, Query.read("x <= x"))
        self.must_raise(TooMany, {"kind": "lines", "limit": 2046}, paper_of, source, Query.read("x <= x"), limit=2046)
        self.assertEqual(2047, len(paper_of(source, Query.read("x <= x"), limit=2047)))
        self.assertEqual(("x",), best_order(source, Query.read("x <= x"), limit=2047))
        self.assertEqual(1023, len(paper_of(source, Query.read("x <= x"), box=Box(10, ["0"]))))

    def test_arguments_by_name(self):
        query = Query.read("r(x,y)")
        self.assertRaises(TypeError, paper_of, self.source(), query, None)
        self.assertRaises(TypeError, best_order, self.source(), query, 2000)
        paper = paper_of(source=self.source(), query=query, box=Box(3, ["0", ""]), limit=9)
        self.assertEqual("0,*", str(paper.closing))
        self.assertEqual(("x", "y"), best_order(source=self.source(), query=query, limit=9))

    def test_forgotten_versions_last(self):
        base = Base(3)
        base.add_table("r", 2)
        source = base.snapshot()
        base.commit([("insert", "r", (0, 0), 0)])
        base.forget(1)
        query = Query.read("r(x,y)")
        for call in (paper_of, best_order):
            self.must_raise(TooOld, {"least": 1}, call, source, query)
            self.must_raise(InvalidLimit, {"value": 0}, call, source, query, limit=0)
            self.must_raise(UnknownTable, {"value": "u"}, call, source, Query.read("u(x)"))
        self.must_raise(Unlike, {}, paper_of, source, query, box=Box(3))
        # No row has to be looked up where a comparison before it is false.
        self.assertEqual("false 0 *\n", str(paper_of(source, Query.read("x != x, r(x,x)"))))
        self.assertEqual(7, len(paper_of(source, Query.read("x < 2"))))
        self.must_raise(TooMany, {"kind": "lines", "limit": 1}, paper_of, source, Query.read("2 < x, r(x,x)"), limit=1)
        self.must_raise(TooOld, {"least": 1}, paper_of, source, Query.read("2 < x, r(x,x)"), limit=4)


class BestOrderTest(unittest.TestCase, Raises):

    def test_compared(self):
        best = []
        for seed, text in enumerate(TEXTS + LONGER_TEXTS):
            base, model = filled_pair(seed + 20, 2 if len(Query.read(text).variables) < 4 else 1, 2, 12)
            query = Query.read(text)
            expected = slow_best_order(model, 2, query)
            found = best_order(base.snapshot(), query)
            self.assertIs(tuple, type(found))
            self.assertEqual(expected, found, text)
            best.append(expected == query.variables)
        # Often it is the query's own order, and often another one.
        self.assertGreater(best.count(True), 10)
        self.assertGreater(best.count(False), 5)

    def test_no_to_four_variables(self):
        base = Base(1)
        base.add_table("r", 4)
        source = base.snapshot()
        for text in ("r(1,1,1,1)", "r(x,1,1,1)", "r(x,y,1,1) by y,x", "r(x,z,y,1)", "r(d,b,c,a)"):
            # All papers have one line.
            query = Query.read(text)
            self.assertEqual(query.variables, best_order(source, query))

    def test_an_order_that_is_better(self):
        base = Base(3)
        base.add_table("r", 2)
        base.commit([("insert", "r", (key, 5), 0) for key in range(8)])
        query = Query.read("r(x,y), x < y by y,x")
        lengths = {order: len(paper_of(base.snapshot(), query.in_order(*order))) for order in (("x", "y"), ("y", "x"))}
        self.assertNotEqual(*lengths.values())
        self.assertEqual(min(lengths, key=lengths.get), best_order(base.snapshot(), query))

    def test_five_variables(self):
        base = Base(1)
        base.add_table("r", 4)
        query = Query.read("r(a,b,c,d), d < e")
        for limit in (2000, 0, None):
            self.must_raise(TooMany, {"kind": "variables", "limit": 4}, best_order, base.snapshot(), query, limit=limit)

    def test_limits(self):
        base = Base(3)
        base.add_table("r", 2)
        base.commit([("insert", "r", (key, 5), 0) for key in range(8)])
        query = Query.read("r(x,y), x < y")
        source = base.snapshot()
        counts = []
        for order in (("x", "y"), ("y", "x")):
            limit = 1
            while True:
                try:
                    paper_of(source, query.in_order(*order), limit=limit)
                    break
                except TooMany:
                    limit += 1
            counts.append(limit)
        self.assertNotEqual(*counts)
        # One order that is within the limit is not enough.
        self.must_raise(TooMany, {"kind": "lines", "limit": min(counts)}, best_order, source, query, limit=min(counts))
        best_order(source, query, limit=max(counts))


class VersionsTest(unittest.TestCase):

    def test_earlier_versions(self):
        base, model = filled_pair(17, 2, 6, 4)
        for text in TEXTS[:8]:
            query = Query.read(text)
            papers = [paper_of(base.snapshot(version), query) for version in range(7)]
            for version in range(7):
                self.assertEqual(slow_paper(model, version, query)[0], papers[version].lines())
                self.assertEqual(plain_answer(base.snapshot(version), query), papers[version].points())

    def test_tables_that_are_added_later(self):
        base = Base(2)
        source = base.snapshot()
        base.add_table("r", 1)
        base.commit([("insert", "r", (0,), 0)])
        self.assertEqual("gap 0 *\n", str(paper_of(source, Query.read("r(x)"))))
        self.assertEqual([(0,)], paper_of(base.snapshot(), Query.read("r(x)")).points())


class NumbersTest(unittest.TestCase):
    """Many queries made of some literals, over changing rows."""

    LITERALS = (
        ("row", "r", ("x", "y")), ("row", "r", ("y", "x")), ("none", "r", ("x", "x")), ("row", "s", ("y",)),
        ("none", "s", ("x",)), ("<", "x", "y"), ("<=", "y", 2), ("!=", 1, "x"), ("row", "t", ("x", "y", "z")),
        ("none", "t", ("z", 1, "x")), ("=", "z", "y"), ("row", "t", (2, "z", "z")), ("none", "r", ("z", 0)),
    )

    def test_many(self):
        numbers = Numbers(2026)
        for seed in range(60):
            base, model = filled_pair(seed, 2, 2, 4 + numbers.below(40))
            query = Query([numbers.one_of(self.LITERALS) for _ in range(numbers.below(4) + 1)])
            names = list(query.variables)
            order = tuple(names.pop(numbers.below(len(names))) for _ in query.variables)
            query = query.in_order(*order)
            self.assertEqual(slow_paper(model, 2, query)[0], paper_of(base.snapshot(), query).lines())


if __name__ == "__main__":
    unittest.main()
