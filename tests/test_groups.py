"""Point [28]: groups of the points of an answer, and their results."""

import itertools
import unittest

from coverstore.bases import Base
from coverstore.errors import InvalidGroups, InvalidPoint, InvalidValue, NoSuchRow, TooOld, UnknownTable, WrongColumns
from coverstore.evaluating import plain_answer
from coverstore.groups import Grouping
from coverstore.queries import Query

from helpers import NOT_INTEGERS, NOT_LISTS, NOT_STRINGS, NOT_TUPLES, EqualsAll, Raises
from model import filled_pair

QUERY = Query.read("r(x,y), not s(y), x < z, s(z)")
WORDS = ("count", "sum", "least", "greatest")


def small_base():
    base = Base(2)
    base.add_table("r", 2)
    base.add_table("s", 1)
    rows = [((0, 1), 10), ((0, 2), -3), ((1, 1), 7), ((2, 1), 10 ** 9), ((2, 0), 10 ** 9)]
    base.commit([("insert", "r", key, payload) for key, payload in rows] + [("insert", "s", (3,), 4)])
    base.commit([("insert", "s", (1,), -1)])
    return base


def problem(name):
    return {"problem": name}


class MakingTest(unittest.TestCase, Raises):

    def test_properties(self):
        for by, what, of in (((), "count", None), (("x",), "sum", "y"), (("z", "x"), "least", 0),
                             (("y",), "greatest", 3), (("z", "y", "x"), "sum", "z")):
            grouping = Grouping(QUERY, by, what, of)
            self.assertEqual((by, what, of), (grouping.by, grouping.what, grouping.of))
            self.assertEqual(grouping, Grouping(query=QUERY, by=by, what=what, of=of))
        grouping = Grouping(QUERY)
        self.assertEqual(((), "count", None), (grouping.by, grouping.what, grouping.of))

    def test_by(self):
        for by in (("w",), ("x", "x"), ("x", "y", "x"), ("x", "w"), ("x", 0), ("x", True), ("x", None), ("",),
                   (("x",),),
                   ["x"], "x", "xy", {"x": 0}, EqualsAll(), (EqualsAll(),), ("x", EqualsAll()), (["x"],)) + NOT_TUPLES:
            self.must_raise(InvalidGroups, problem("by"), Grouping, QUERY, by, "no", "w")
            self.must_raise(InvalidGroups, problem("by"), Grouping, QUERY, by)
        for count in range(4):
            for by in itertools.permutations(("x", "y", "z"), count):
                self.assertEqual(by, Grouping(QUERY, by).by)

    def test_what(self):
        for what in ("", "Count", "counts", "max", "least ", "greates", ("count",), ["sum"], EqualsAll()) + NOT_STRINGS:
            self.must_raise(InvalidGroups, problem("what"), Grouping, QUERY, (), what, "w")
            self.must_raise(InvalidGroups, problem("what"), Grouping, QUERY, (), what, None)

    def test_of_count(self):
        for of in (0, 3, "x", EqualsAll(), -1) + tuple(value for value in NOT_INTEGERS if value is not None):
            self.must_raise(InvalidGroups, problem("of"), Grouping, QUERY, (), "count", of)

    def test_of_the_other_words(self):
        for what in WORDS[1:]:
            for of in ("x", "y", "z", 0, 3):
                self.assertEqual(of, Grouping(QUERY, (), what, of).of)
            # A denied literal, a comparison, and positions that do not exist.
            for of in (1, 2, 4, -1, 2 ** 70, "w", "r", EqualsAll()) + NOT_INTEGERS:
                self.must_raise(InvalidGroups, problem("of"), Grouping, QUERY, (), what, of)
            self.must_raise(InvalidGroups, problem("of"), Grouping, QUERY, ("x",), what)

    def test_no_variables(self):
        query = Query.read("r(0,1), not s(0)")
        self.assertEqual(0, Grouping(query, (), "sum", 0).of)
        self.must_raise(InvalidGroups, problem("by"), Grouping, query, ("x",))
        self.must_raise(InvalidGroups, problem("of"), Grouping, query, (), "sum", "x")
        self.must_raise(InvalidGroups, problem("of"), Grouping, query, (), "sum", 1)

    def test_equality(self):
        one = Grouping(QUERY, ("x", "y"), "sum", "z")
        self.assertTrue(one == Grouping(Query(QUERY.literals()), ("x", "y"), "sum", "z"))
        self.assertFalse(one != Grouping(QUERY, ("x", "y"), "sum", "z"))
        for other in (Grouping(QUERY, ("y", "x"), "sum", "z"), Grouping(QUERY, ("x",), "sum", "z"),
                      Grouping(QUERY, ("x", "y"), "least", "z"), Grouping(QUERY, ("x", "y"), "sum", "y"),
                      Grouping(QUERY, ("x", "y"), "sum", 0),
                      Grouping(QUERY.in_order("z", "y", "x"), ("x", "y"), "sum", "z"),
                      Grouping(QUERY, ("x", "y")), None, QUERY, (QUERY, ("x", "y"), "sum", "z"), "sum"):
            self.assertFalse(one == other)
            self.assertTrue(one != other)
        self.assertTrue(Grouping(QUERY) == Grouping(QUERY, (), "count", None))
        self.assertFalse(Grouping(QUERY, (), "sum", 0) == Grouping(QUERY, (), "sum", 3))


class ResultsTest(unittest.TestCase, Raises):

    # In the order of the query: x, y, z.
    POINTS = [(2, 1, 3), (0, 2, 3), (0, 1, 3), (1, 1, 3), (2, 0, 3), (0, 1, 1)]

    def results(self, by=(), what="count", of=None, points=None):
        grouping = Grouping(QUERY, by, what, of)
        return grouping.results(small_base().snapshot(), self.POINTS if points is None else points)

    def test_counts(self):
        self.assertEqual({(): 6}, self.results())
        self.assertEqual({(0,): 3, (1,): 1, (2,): 2}, self.results(("x",)))
        self.assertEqual({(1, 0): 1, (3, 0): 2, (3, 1): 1, (3, 2): 2}, self.results(("z", "x")))
        self.assertEqual({(x, y, z): 1 for x, y, z in self.POINTS}, self.results(("x", "y", "z")))

    def test_variables(self):
        self.assertEqual({(): 5}, self.results((), "sum", "x"))
        self.assertEqual({(): 0}, self.results((), "least", "y"))
        self.assertEqual({(): 2}, self.results((), "greatest", "x"))
        self.assertEqual({(0,): 4, (1,): 1, (2,): 1}, self.results(("x",), "sum", "y"))
        self.assertEqual({(0,): 1, (1,): 3, (2,): 3}, self.results(("x",), "least", "z"))
        self.assertEqual({(0,): 2, (1,): 1, (2,): 1}, self.results(("x",), "greatest", "y"))
        self.assertEqual({(0,): 0, (1,): 1, (2,): 2}, self.results(("x",), "greatest", "x"))

    def test_payloads(self):
        self.assertEqual({(): 2 * 10 ** 9 + 24}, self.results((), "sum", 0))
        self.assertEqual({(): -3}, self.results((), "least", 0))
        self.assertEqual({(0,): 10, (1,): 7, (2,): 10 ** 9}, self.results(("x",), "greatest", 0))
        self.assertEqual({(0,): 7, (1,): 4, (2,): 8}, self.results(("x",), "sum", 3))
        self.assertEqual({(1,): -1, (3,): 4}, self.results(("z",), "least", 3))

    def test_integers_in_the_literal(self):
        query = Query.read("s(x), r(0,2), r(x,1)")
        source = small_base().snapshot()
        self.assertEqual({(): -6}, Grouping(query, (), "sum", 1).results(source, [(3,), (1,)]))
        self.assertEqual({(1,): 7}, Grouping(query, ("x",), "sum", 2).results(source, [(1,)]))

    def test_the_sequence_of_the_names(self):
        for by in ((), ("x",), ("y", "x"), ("z", "y"), ("z", "y", "x")):
            for what, of in (("count", None), ("sum", "x"), ("least", 0), ("greatest", 3)):
                results = self.results(by, what, of)
                self.assertIs(dict, type(results))
                self.assertEqual(sorted(results), list(results))
                self.assertEqual(results, self.results(by, what, of, tuple(self.POINTS[::-1])))
                for name, result in results.items():
                    self.assertEqual((tuple, len(by), int), (type(name), len(name), type(result)))

    def test_no_points(self):
        for by in ((), ("x",), ("z", "x")):
            for what, of in (("count", None), ("sum", "x"), ("least", 0)):
                self.assertEqual({}, self.results(by, what, of, []))
                self.assertEqual({}, self.results(by, what, of, ()))

    def test_no_variables(self):
        query = Query.read("r(0,1), not s(0)")
        source = small_base().snapshot()
        self.assertEqual({(): 1}, Grouping(query).results(source, [()]))
        self.assertEqual({(): 10}, Grouping(query, (), "least", 0).results(source, [()]))
        self.assertEqual({}, Grouping(query).results(source, []))
        self.must_raise(InvalidPoint, {"value": ()}, Grouping(query).results, source, [(), ()])

    def test_returned_dicts_are_new(self):
        grouping, source = Grouping(QUERY, ("x",)), small_base().snapshot()
        one = grouping.results(source, self.POINTS)
        one.clear()
        self.assertEqual({(0,): 3, (1,): 1, (2,): 2}, grouping.results(source=source, points=self.POINTS))

    def test_queries_that_do_not_fit_first(self):
        source = small_base().snapshot()
        for text, kind, told in (("u(x)", UnknownTable, {"value": "u"}), ("r(x)", WrongColumns, {"position": 0}),
                                 ("x < 4", InvalidValue, {"value": 4})):
            self.must_raise(kind, told, Grouping(Query.read(text)).results, source, None)

    def test_points_that_are_none(self):
        source = small_base().snapshot()
        for what, of in (("count", None), ("sum", 0)):
            call = Grouping(QUERY, ("x",), what, of).results
            for points in NOT_LISTS + (EqualsAll(),):
                self.must_raise(InvalidPoint, {"value": -1}, call, source, points)
            for point in ((), (0, 1), (0, 1, 3, 0), (0, 1, 4), (-1, 1, 3), (0, True, 3), (False, 1, 3), (0, 1, None),
                          ("0", "1", "3"), [0, 1, 3], EqualsAll(), (EqualsAll(), 1, 3), ((0, 1, 3),)) + NOT_TUPLES:
                self.must_raise(InvalidPoint, {"value": point}, call, source, [point])
                # Behind a point at which the payload is needed of a key that is absent, and before another one.
                self.must_raise(InvalidPoint, {"value": point}, call, source, [(3, 3, 3), (0, 1, 3), point, None])

    def test_points_that_are_there_twice(self):
        source = small_base().snapshot()
        for what, of in (("count", None), ("sum", 0)):
            call = Grouping(QUERY, ("x",), what, of).results
            self.must_raise(InvalidPoint, {"value": (0, 1, 3)}, call, source, [(0, 1, 3), (3, 3, 3), (0, 1, 3), (9,)])
            self.must_raise(InvalidPoint, {"value": (9,)}, call, source, [(0, 1, 3), (9,), (0, 1, 3)])

    def test_payloads_of_absent_keys(self):
        source = small_base().snapshot()
        call = Grouping(QUERY, (), "sum", 0).results
        points = [(0, 1, 3), (3, 2, 0), (1, 0, 0)]
        self.must_raise(NoSuchRow, {"table": "r", "key": (3, 2)}, call, source, points)
        self.must_raise(NoSuchRow, {"table": "r", "key": (1, 0)}, call, source, points[::-1])
        call = Grouping(QUERY, (), "greatest", 3).results
        self.must_raise(NoSuchRow, {"table": "s", "key": (0,)}, call, source, points)
        # Where no payload is needed, the points need not be those of the answer.
        self.assertEqual({(): 3}, Grouping(QUERY).results(source, points))
        self.assertEqual({(): 4}, Grouping(QUERY, (), "sum", "x").results(source, points))

    def test_forgotten_versions(self):
        base = small_base()
        source = base.snapshot(1)
        base.forget(2)
        self.must_raise(TooOld, {"least": 2}, Grouping(QUERY, (), "sum", 0).results, source, [(0, 1, 3)])
        self.must_raise(InvalidPoint, {"value": 1}, Grouping(QUERY, (), "sum", 0).results, source, [(0, 1, 3), 1])
        self.assertEqual({}, Grouping(QUERY, (), "sum", 0).results(source, []))
        self.assertEqual({(): 1}, Grouping(QUERY, (), "sum", "y").results(source, [(0, 1, 3)]))

    def test_versions(self):
        base = small_base()
        base.commit([("update", "r", (0, 1), 11)])
        grouping = Grouping(QUERY, (), "sum", 0)
        self.assertEqual([{(): 10}, {(): 11}], [grouping.results(base.snapshot(at), [(0, 1, 3)]) for at in (2, 3)])


class ByDefinitionTest(unittest.TestCase):

    def test_compared(self):
        functions = {"count": len, "sum": sum, "least": min, "greatest": max}
        for seed, text in enumerate(("r(x,y)", "t(x,y,z), r(x,z)", "r(y,x), not s(x) by x,y", "s(z), r(z,w)")):
            query = Query.read(text)
            base, model = filled_pair(seed, 2, 2, 40)
            points = plain_answer(base.snapshot(), query)
            self.assertGreater(len(points), 2)
            for count in range(len(query.variables) + 1):
                for by in itertools.permutations(query.variables, count):
                    for what, of in [("count", None)] + list(itertools.product(WORDS[1:], query.variables + (0,))):
                        amounts = {}
                        for point in points:
                            values = dict(zip(query.variables, point))
                            _, table, terms = query.literals()[0]
                            values[0] = model.payload(table, tuple(values[term] for term in terms), 2)
                            amounts.setdefault(tuple(values[name] for name in by), []).append(values.get(of))
                        expected = {name: functions[what](amounts[name]) for name in sorted(amounts)}
                        found = Grouping(query, by, what, of).results(base.snapshot(), points)
                        self.assertEqual(list(expected.items()), list(found.items()))


if __name__ == "__main__":
    unittest.main()
