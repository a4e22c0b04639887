"""Points [4], [33] and [34]: views, their results at each version, the differences between versions."""

import unittest

from coverstore.bases import Base
from coverstore.errors import InvalidGroups, InvalidName, InvalidValue, NameTaken, TooMany, TooOld
from coverstore.errors import UnknownName, UnknownTable, UnknownVersion, WrongColumns
from coverstore.evaluating import plain_answer
from coverstore.groups import Grouping
from coverstore.keepers import Keeper
from coverstore.queries import Query
from coverstore.views import View

from helpers import NOT_INTEGERS, NOT_NAMES, EqualsAll, Numbers, Raises
from model import commit_to_both, filled_pair, some_writes

QUERY = Query.read("r(x,y), not s(x)")

NO_VERSIONS = (-1, 5, 2 ** 70, EqualsAll()) + tuple(value for value in NOT_INTEGERS if value is not None)


def small_base():
    """At the versions 0 to 4 the answers have no rows; three; with another payload; without x = 0; with x = 3."""
    base = Base(2)
    base.add_table("r", 2)
    base.add_table("s", 1)
    base.commit([("insert", "r", (0, 1), 5), ("insert", "r", (0, 2), 6), ("insert", "r", (2, 2), 7)])
    base.commit([("update", "r", (2, 2), 70)])
    base.commit([("insert", "s", (0,), 0)])
    base.commit([("insert", "r", (3, 0), -1), ("insert", "r", (2, 0), 1)])
    return base


SUMS = [{}, {(0,): 11, (2,): 7}, {(0,): 11, (2,): 70}, {(2,): 70}, {(2,): 71, (3,): -1}]


class MakingTest(unittest.TestCase, Raises):

    def test_keeps_the_query(self):
        base = small_base()
        keeper = Keeper(base)
        keeper.keep("b", QUERY)
        view = View(keeper, "a", QUERY, ("x",), "sum", 0)
        self.assertEqual(["b", "a"], keeper.names())
        self.assertEqual((QUERY, 4), (keeper.kept_query("a"), keeper.version_of("a")))
        self.assertEqual(SUMS[4], view.results())
        view = View(keeper=keeper, name="c", query=QUERY, by=("y",), what="greatest", of="x")
        self.assertEqual({(0,): 3, (2,): 2}, view.results())
        self.assertEqual({(): 3}, View(keeper, "d", QUERY).results())
        self.assertFalse(view == View(keeper, "e", QUERY, ("y",), "greatest", "x"))

    def test_groups_first(self):
        keeper = Keeper(small_base())
        for by, what, of, problem in ((["x"], "no", 7, "by"), (("z",), "sum", None, "by"),
                                      (("x",), "Sum", None, "what"),
                                      ((), EqualsAll(), None, "what"), ((), "sum", None, "of"), ((), "sum", 1, "of"),
                                      ((), "count", 0, "of"), ((), "least", True, "of"), ((), "sum", "z", "of")):
            for name in ("a", "A", None):
                self.must_raise(InvalidGroups, {"problem": problem}, View, keeper, name, QUERY, by, what, of)
        self.assertEqual([], keeper.names())

    def test_then_the_keeper(self):
        keeper = Keeper(small_base())
        for name in NOT_NAMES + (EqualsAll(),):
            self.must_raise(InvalidName, {"value": name}, View, keeper, name, Query.read("u(x)"))
        keeper.keep("a", QUERY)
        self.must_raise(NameTaken, {"name": "a"}, View, keeper, "a", Query.read("u(x)"))
        for text, kind, told in (("u(x)", UnknownTable, {"value": "u"}), ("r(x)", WrongColumns, {"position": 0}),
                                 ("r(x,y), x < 4", InvalidValue, {"value": 4})):
            self.must_raise(kind, told, View, keeper, "b", Query.read(text))
        self.assertEqual(["a"], keeper.names())

    def test_the_usual_limit(self):
        keeper = Keeper(Base(10))
        self.must_raise(TooMany, {"kind": "lines", "limit": 2000}, View, keeper, "a", Query.read("x <= x"))
        self.assertEqual([], keeper.names())


class ResultsTest(unittest.TestCase, Raises):

    def made(self, *grouping):
        base = small_base()
        keeper = Keeper(base)
        return base, keeper, View(keeper, "a", QUERY, *grouping)

    def test_at_each_version(self):
        _, keeper, view = self.made(("x",), "sum", 0)
        self.assertEqual(SUMS, [view.results(version) for version in range(5)])
        self.assertEqual(SUMS[4], view.results(version=None))
        for version in (None, 1, 4):
            results = view.results(version)
            self.assertIs(dict, type(results))
            self.assertEqual(sorted(results), list(results))
            results.clear()
            self.assertEqual(SUMS[4 if version is None else version], view.results(version))

    def test_catches_up_at_the_newest_version_alone(self):
        base, keeper, view = self.made(("x",), "sum", 0)
        base.commit([("update", "r", (3, 0), -2)])
        self.assertEqual(SUMS[1], view.results(1))
        self.assertEqual(SUMS[4], view.results(4))
        self.assertEqual(4, keeper.version_of("a"))
        # No line of the paper is broken by another payload, but the sum is another one.
        paper = keeper.kept_paper("a")
        self.assertEqual({(2,): 71, (3,): -2}, view.results())
        self.assertEqual((paper, 5), (keeper.kept_paper("a"), keeper.version_of("a")))
        base.commit([("delete", "s", (0,))])
        self.assertEqual({(0,): 11, (2,): 71, (3,): -2}, view.results(6))
        self.assertEqual(6, keeper.version_of("a"))

    def test_versions(self):
        base, keeper, view = self.made()
        for version in NO_VERSIONS:
            self.must_raise(UnknownVersion, {"value": version}, view.results, version)
            self.must_raise(UnknownVersion, {"value": version}, view.difference, version)
        base.forget(2)
        for version in (0, 1):
            self.must_raise(TooOld, {"least": 2}, view.results, version)
            self.must_raise(TooOld, {"least": 2}, view.difference, version)

    def test_the_limit_at_earlier_versions(self):
        base = Base(8)
        base.add_table("r", 2)
        base.commit([("insert", "r", (value, value), 0) for value in range(0, 256)])
        base.commit([("delete", "r", (value, value)) for value in range(0, 256)])
        keeper = Keeper(base)
        view = View(keeper, "a", Query.read("r(x,y)"))
        base.commit([("insert", "r", (0, 0), 0)])
        for call in (view.results, view.difference):
            self.must_raise(TooMany, {"kind": "lines", "limit": 2000}, call, 1)
        # The call that raised an error did not catch up either.
        self.assertEqual(2, keeper.version_of("a"))
        self.assertEqual({(): 1}, view.results())

    def test_a_paper_whose_version_was_forgotten(self):
        base, keeper, view = self.made(("x",))
        base.commit([("delete", "r", (3, 0))])
        base.forget(5)
        self.assertEqual({(2,): 2}, view.results())

    def test_released(self):
        base, keeper, view = self.made()
        other = View(keeper, "b", QUERY)
        keeper.release("a")
        calls = [(view.results,), (view.results, 0), (view.results, 7), (view.difference, 0), (view.difference, None),
                 (view.difference, True)]
        for call in calls:
            self.must_raise(UnknownName, {"value": "a"}, *call)
        self.assertEqual({(): 3}, other.results())
        # The name is used again, even for the same query, and by another view.
        keeper.keep("a", QUERY)
        for call in calls:
            self.must_raise(UnknownName, {"value": "a"}, *call)
        keeper.release("a")
        again = View(keeper, "a", QUERY)
        for call in calls:
            self.must_raise(UnknownName, {"value": "a"}, *call)
        self.assertEqual({(): 3}, again.results())
        keeper.release("a")
        self.must_raise(UnknownName, {"value": "a"}, again.results)


class DifferenceTest(unittest.TestCase, Raises):

    def test_since_each_version(self):
        base = small_base()
        keeper = Keeper(base)
        view = View(keeper, "a", QUERY, ("x",), "sum", 0)
        self.assertEqual(
            [([(2,), (3,)], [], []), ([(3,)], [(0,)], [(2,)]), ([(3,)], [(0,)], [(2,)]), ([(3,)], [], [(2,)]),
             ([], [], [])],
            [view.difference(version) for version in range(5)])
        self.assertEqual(([], [], []), view.difference(None))
        self.assertEqual(([(3,)], [], [(2,)]), view.difference(version=3))

    def test_other_results(self):
        base = small_base()
        keeper = Keeper(base)
        count = View(keeper, "a", QUERY, ("x",))
        self.assertEqual(([(3,)], [(0,)], [(2,)]), count.difference(1))
        self.assertEqual(([(3,)], [], [(2,)]), count.difference(3))
        least = View(keeper, "b", QUERY, (), "least", "y")
        self.assertEqual([([()], [], []), ([], [], [()]), ([], [], [()]), ([], [], [()]), ([], [], [])],
                         [least.difference(version) for version in range(5)])
        greatest = View(keeper, "c", QUERY, (), "greatest", "y")
        self.assertEqual(([], [], []), greatest.difference(1))
        base.commit([("insert", "s", (2,), 0), ("insert", "s", (3,), 0)])
        self.assertEqual(([], [()], []), greatest.difference(1))

    def test_catches_up(self):
        for version in (1, 5, None):
            base = small_base()
            keeper = Keeper(base)
            view = View(keeper, "a", QUERY, ("x",))
            base.commit([("delete", "r", (3, 0))])
            view.difference(version)
            self.assertEqual(5, keeper.version_of("a"))

    def test_returned_lists_are_new(self):
        view = View(Keeper(small_base()), "a", QUERY, ("x",), "sum", 0)
        one, other = view.difference(1), view.difference(1)
        self.assertEqual((tuple, [list] * 3), (type(one), [type(part) for part in one]))
        for part in one:
            part.clear()
        self.assertEqual(([(3,)], [(0,)], [(2,)]), other)
        newest = view.difference(None)
        self.assertEqual(3, len({id(part) for part in newest}))

    def test_compared(self):
        numbers, kinds = Numbers(34), [0, 0, 0]
        for seed, (text, by, what, of) in enumerate((
                ("r(x,y), not s(y)", ("x",), "sum", 0), ("t(x,y,z)", ("z", "x"), "count", None),
                ("r(x,y), r(y,x)", ("y",), "greatest", 1), ("not s(x), s(y) by y,x", ("y",), "least", "x"))):
            base, model = filled_pair(seed, 2, 1, 10)
            query = Query.read(text)
            view = View(Keeper(base), "a", query, by, what, of)
            for _ in range(10):
                commit_to_both(base, model, some_writes(numbers, model, 3))
                if numbers.below(2):
                    continue
                results = [
                    Grouping(query, by, what, of).results(base.snapshot(at), plain_answer(base.snapshot(at), query))
                    for at in range(base.version + 1)]
                now = results[-1]
                for version, before in enumerate(results):
                    self.assertEqual(list(before.items()), list(view.results(version).items()))
                    expected = (sorted(set(now) - set(before)), sorted(set(before) - set(now)),
                                sorted(name for name in now if name in before and now[name] != before[name]))
                    self.assertEqual(expected, view.difference(version))
                    kinds = [count + len(part) for count, part in zip(kinds, expected)]
        self.assertGreater(min(kinds), 10)


if __name__ == "__main__":
    unittest.main()
