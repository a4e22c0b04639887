"""Points [4], [33] and [35]: kept queries, their answers, catching up, lines that are hit."""

import unittest

from coverstore.bases import Base
from coverstore.boxes import Box
from coverstore.breaks import broken_lines
from coverstore.checks import wrong_line
from coverstore.engine import paper_of
from coverstore.errors import InvalidKey, InvalidLimit, InvalidName, InvalidValue, NameTaken, TooMany, TooOld
from coverstore.errors import UnknownName, UnknownTable, UnknownVersion, WrongColumns
from coverstore.keepers import Keeper
from coverstore.papers import Paper
from coverstore.queries import Query
from coverstore.repair import repaired

from helpers import NAMES, NOT_INTEGERS, NOT_NAMES, NOT_TUPLES, EqualsAll, Numbers, Raises, all_points
from model import commit_to_both, filled_pair, some_writes
from slow import plain, put_in, slow_paper, slow_repair

QUERY = Query.read("r(x), not s(x)")

NO_VERSIONS = (-1, 4, 2 ** 70, EqualsAll()) + tuple(value for value in NOT_INTEGERS if value is not None)


def small_base():
    """The answers of QUERY at the versions 0 to 3: none; 1, 2; 1; 0, 1."""
    base = Base(2)
    base.add_table("r", 1)
    base.add_table("s", 1)
    base.commit([("insert", "r", (1,), 0), ("insert", "r", (2,), 0), ("insert", "s", (0,), 0)])
    base.commit([("insert", "s", (2,), 0)])
    base.commit([("delete", "s", (0,)), ("insert", "r", (0,), 0)])
    return base


ANSWERS = [[], [(1,), (2,)], [(1,)], [(0,), (1,)]]


class NamesTest(unittest.TestCase, Raises):

    def test_new_keeper(self):
        keeper = Keeper(base=small_base())
        self.assertEqual(([], 0), (keeper.names(), len(keeper)))
        self.assertIsNone(keeper.catch_up())
        self.assertEqual([], keeper.hits("r", (0,)))

    def test_good_names(self):
        keeper = Keeper(small_base())
        for name in NAMES:
            self.assertIsNone(keeper.keep(name, QUERY))
        self.assertEqual(list(NAMES), keeper.names())
        self.assertEqual(len(NAMES), len(keeper))
        self.assertEqual(QUERY, keeper.kept_query(NAMES[0]))

    def test_wrong_names_first(self):
        keeper = Keeper(small_base())
        for name in NOT_NAMES + (EqualsAll(),):
            self.must_raise(InvalidName, {"value": name}, keeper.keep, name, Query.read("u(x)"), limit=0)
        self.assertEqual([], keeper.names())

    def test_taken_names_second(self):
        keeper = Keeper(small_base())
        keeper.keep("a", QUERY)
        for query in (QUERY, Query.read("u(x)")):
            self.must_raise(NameTaken, {"name": "a"}, keeper.keep, "a", query, limit=0)
        self.assertEqual((["a"], QUERY), (keeper.names(), keeper.kept_query("a")))

    def test_then_as_the_paper(self):
        keeper = Keeper(small_base())
        for text, kind, told in (("u(x)", UnknownTable, {"value": "u"}), ("r(x,x)", WrongColumns, {"position": 0}),
                                 ("r(x), x < 4", InvalidValue, {"value": 4})):
            self.must_raise(kind, told, keeper.keep, "a", Query.read(text), limit=0)
        for limit in (0, 100001, EqualsAll()) + NOT_INTEGERS:
            self.must_raise(InvalidLimit, {"value": limit}, keeper.keep, "a", QUERY, limit=limit)
        self.must_raise(TooMany, {"kind": "lines", "limit": 2}, keeper.keep, "a", QUERY, limit=2)
        self.assertEqual(([], 0, False), (keeper.names(), len(keeper), "a" in keeper))
        self.assertRaises(TypeError, keeper.keep, "a", QUERY, 2000)

    def test_limits(self):
        base = Base(10)
        base.add_table("r", 1)
        keeper = Keeper(base)
        every = Query.read("x <= x")
        self.must_raise(TooMany, {"kind": "lines", "limit": 2000}, keeper.keep, "a", every)
        self.must_raise(TooMany, {"kind": "lines", "limit": 2046}, keeper.keep, "a", every, limit=2046)
        keeper.keep(name="a", query=every, limit=2047)
        self.assertEqual(2047, len(keeper.kept_paper("a")))

    def test_release_and_keep_again(self):
        keeper = Keeper(small_base())
        for name in ("b", "c", "a"):
            keeper.keep(name, QUERY)
        self.assertIsNone(keeper.release("b"))
        self.assertEqual((["c", "a"], 2), (keeper.names(), len(keeper)))
        self.must_raise(UnknownName, {"value": "b"}, keeper.release, "b")
        other = Query.read("s(x)")
        keeper.keep("b", other)
        self.assertEqual(["c", "a", "b"], keeper.names())
        self.assertEqual((other, [(2,)]), (keeper.kept_query("b"), keeper.answer("b")))
        keeper.release(name="c")
        self.assertEqual(["a", "b"], keeper.names())

    def test_in(self):
        keeper = Keeper(small_base())
        keeper.keep("a", QUERY)
        self.assertIs(True, "a" in keeper)
        for value in ("b", "", EqualsAll(), ["a"], ("a",), {"a": 1}, QUERY) + NOT_NAMES:
            self.assertIs(False, value in keeper)
        keeper.release("a")
        self.assertIs(False, "a" in keeper)

    def test_unknown_names(self):
        keeper = Keeper(small_base())
        keeper.keep("a", QUERY)
        keeper.keep("b", QUERY)
        keeper.release("b")
        for name in ("b", "c", EqualsAll()) + NOT_NAMES:
            for call in (keeper.release, keeper.kept_query, keeper.kept_paper, keeper.version_of, keeper.answer,
                         keeper.catch_up):
                self.must_raise(UnknownName, {"value": name}, call, name)
            self.must_raise(UnknownName, {"value": name}, keeper.answer, name, -1)
        self.assertEqual(["a"], keeper.names())

    def test_returned_lists_are_new(self):
        keeper = Keeper(small_base())
        keeper.keep("a", QUERY)
        for call in (keeper.names, lambda: keeper.answer("a"), lambda: keeper.answer("a", 1),
                     lambda: keeper.hits("r", (0,))):
            one, other = call(), call()
            self.assertEqual((list, list), (type(one), type(other)))
            self.assertNotEqual([], one)
            one.clear()
            self.assertEqual(other, call())

    def test_keepers_are_independent(self):
        base = small_base()
        one, other = Keeper(base), Keeper(base)
        one.keep("a", QUERY)
        self.assertEqual([], other.names())
        other.keep("a", Query.read("s(x)"))
        self.assertEqual(QUERY, one.kept_query("a"))
        self.assertFalse(one == other)


class AnswersTest(unittest.TestCase, Raises):

    def told(self, keeper, name="a"):
        return keeper.kept_paper(name), keeper.version_of(name)

    def test_the_newest_version(self):
        base = small_base()
        keeper = Keeper(base)
        keeper.keep("a", QUERY)
        self.assertEqual((paper_of(base.snapshot(), QUERY), 3), self.told(keeper))
        for version in (None, 3):
            self.assertEqual(ANSWERS[3], keeper.answer("a", version))
        self.assertEqual(ANSWERS[3], keeper.answer(name="a", version=None))

    def test_answers_catch_up(self):
        for named in (False, True):
            base = small_base()
            keeper = Keeper(base)
            keeper.keep("a", QUERY)
            keeper.keep("b", QUERY)
            first = keeper.kept_paper("a")
            base.commit([("delete", "r", (1,))])
            base.commit([("insert", "r", (3,), 1)])
            self.assertEqual((first, 3), self.told(keeper))
            self.assertEqual([(0,), (3,)], keeper.answer("a", 5) if named else keeper.answer("a"))
            self.assertEqual((repaired(base.snapshot(), first).paper, 5), self.told(keeper))
            self.assertEqual((first, 3), self.told(keeper, "b"))

    def test_versions_at_which_nothing_changed(self):
        base = small_base()
        keeper = Keeper(base)
        keeper.keep("a", QUERY)
        paper = keeper.kept_paper("a")
        base.commit([("insert", "r", (3,), 1), ("delete", "r", (3,))])
        base.commit([("update", "r", (1,), 1)])
        keeper.catch_up("a")
        self.assertEqual((paper, 5), self.told(keeper))

    def test_earlier_versions_change_nothing(self):
        base = small_base()
        keeper = Keeper(base)
        keeper.keep("a", QUERY)
        first = self.told(keeper)
        base.commit([("delete", "r", (1,))])
        for version, answer in enumerate(ANSWERS):
            self.assertEqual(answer, keeper.answer("a", version))
            self.assertEqual(first, self.told(keeper))
        self.assertEqual([(0,)], keeper.answer("a"))
        second = self.told(keeper)
        self.assertEqual(ANSWERS[3], keeper.answer("a", 3))
        self.assertEqual(second, self.told(keeper))

    def test_no_other_call_changes_a_paper(self):
        base = small_base()
        keeper = Keeper(base)
        keeper.keep("a", QUERY)
        keeper.keep("b", Query.read("s(x)"))
        first = self.told(keeper)
        base.commit([("delete", "r", (1,))])
        keeper.keep("c", QUERY)
        self.assertEqual(4, keeper.version_of("c"))
        keeper.release("b")
        keeper.kept_query("a")
        keeper.hits("r", (1,))
        keeper.names()
        keeper.answer("c")
        keeper.catch_up("c")
        self.assertTrue("a" in keeper and len(keeper) == 2)
        self.assertEqual(first, self.told(keeper))

    def test_versions(self):
        base = small_base()
        keeper = Keeper(base)
        keeper.keep("a", QUERY)
        for version in NO_VERSIONS:
            self.must_raise(UnknownVersion, {"value": version}, keeper.answer, "a", version)
        base.commit([("delete", "r", (1,))])
        base.forget(2)
        for version in (0, 1):
            self.must_raise(TooOld, {"least": 2}, keeper.answer, "a", version)
        self.must_raise(UnknownVersion, {"value": 5}, keeper.answer, "a", 5)
        self.assertEqual(3, keeper.version_of("a"))
        self.assertEqual(ANSWERS[2], keeper.answer("a", 2))
        self.assertEqual(ANSWERS[3], keeper.answer("a", 3))
        self.assertEqual(3, keeper.version_of("a"))

    def test_the_limit_at_earlier_versions(self):
        base = Base(10)
        base.add_table("r", 1)
        base.add_table("s", 1)
        every = Query.read("not r(x)")
        keeper = Keeper(base)
        self.must_raise(TooMany, {"kind": "lines", "limit": 2000}, keeper.keep, "a", every)
        keeper.keep("a", every, limit=2047)
        base.commit([("insert", "s", (0,), 0)])
        self.must_raise(TooMany, {"kind": "lines", "limit": 2000}, keeper.answer, "a", 0)
        self.assertEqual(0, keeper.version_of("a"))
        # At the newest version there is no limit, neither for what is kept nor for the repair.
        self.assertEqual(1024, len(keeper.answer("a")))
        base.commit([("insert", "r", (value,), 0) for value in range(1024)])
        self.assertEqual([], keeper.answer("a"))
        base.commit([("delete", "r", (value,)) for value in range(1024)])
        self.assertEqual(1024, len(keeper.answer("a", 3)))
        self.must_raise(TooMany, {"kind": "lines", "limit": 2000}, keeper.answer, "a", 2)

    def test_a_paper_whose_version_was_forgotten(self):
        base = small_base()
        keeper = Keeper(base)
        keeper.keep("a", QUERY)
        paper = keeper.kept_paper("a")
        base.commit([("delete", "r", (1,))])
        base.forget(4)
        self.assertEqual((paper, 3), self.told(keeper))
        self.must_raise(TooOld, {"least": 4}, keeper.answer, "a", 3)
        self.assertEqual([(0,)], keeper.answer("a"))
        self.assertEqual((repaired(base.snapshot(), paper).paper, 4), self.told(keeper))

    def test_tables_that_are_added_later(self):
        base = small_base()
        keeper = Keeper(base)
        self.must_raise(UnknownTable, {"value": "t"}, keeper.keep, "a", Query.read("r(x), t(x)"))
        base.add_table("t", 1)
        keeper.keep("a", Query.read("r(x), not t(x)"))
        base.commit([("insert", "t", (0,), 0)])
        self.assertEqual([[], [(1,), (2,)], [(1,), (2,)], [(0,), (1,), (2,)], [(1,), (2,)]],
                         [keeper.answer("a", version) for version in range(5)])


class CatchingUpTest(unittest.TestCase, Raises):

    def three(self):
        base = small_base()
        keeper = Keeper(base)
        for name, text in (("b", "r(x)"), ("c", "not s(x)"), ("a", "r(x), not s(x)")):
            keeper.keep(name, Query.read(text))
        base.commit([("insert", "r", (3,), 0), ("delete", "s", (2,))])
        return base, keeper

    def versions(self, keeper):
        return [keeper.version_of(name) for name in keeper.names()]

    def test_without_names(self):
        base, keeper = self.three()
        papers = [keeper.kept_paper(name) for name in keeper.names()]
        self.assertIsNone(keeper.catch_up())
        self.assertEqual([4, 4, 4], self.versions(keeper))
        self.assertEqual([repaired(base.snapshot(), paper).paper for paper in papers],
                         [keeper.kept_paper(name) for name in keeper.names()])

    def test_with_names(self):
        _, keeper = self.three()
        self.assertIsNone(keeper.catch_up("a"))
        self.assertEqual([3, 3, 4], self.versions(keeper))
        keeper.catch_up("a", "b", "a")
        self.assertEqual([4, 3, 4], self.versions(keeper))
        keeper.catch_up("c", "b")
        self.assertEqual([4, 4, 4], self.versions(keeper))
        self.assertEqual(["b", "c", "a"], keeper.names())

    def test_a_wrong_one_among_them(self):
        for name in ("d", None, True, EqualsAll(), ["a"], "A"):
            _, keeper = self.three()
            papers = [keeper.kept_paper(kept) for kept in keeper.names()]
            for names in (("a", name), (name, "a"), ("a", "b", name, "d")):
                self.must_raise(UnknownName, {"value": name}, keeper.catch_up, *names)
            self.assertEqual([3, 3, 3], self.versions(keeper))
            self.assertEqual(papers, [keeper.kept_paper(kept) for kept in keeper.names()])

    def test_at_the_newest_version_nothing_happens(self):
        _, keeper = self.three()
        keeper.catch_up()
        papers = [keeper.kept_paper(name) for name in keeper.names()]
        keeper.catch_up()
        self.assertEqual(papers, [keeper.kept_paper(name) for name in keeper.names()])


class ManyCommitsTest(unittest.TestCase):
    """Each kept paper is what one repair after another makes, and each answer is the plain one."""

    TEXTS = ("r(x,y), not s(y)", "r(x,y), r(y,x)", "not r(x,x), s(x)", "t(x,y,x), x < y by y,x", "not s(1), r(2,3)")

    def test_compared(self):
        numbers = Numbers(33)
        base, model = filled_pair(1, 2, 1, 12)
        keeper = Keeper(base)
        queries = {name: Query.read(text) for name, text in zip("abcde", self.TEXTS)}
        lines, since = {}, {}
        for name, query in queries.items():
            keeper.keep(name, query)
            lines[name], since[name] = slow_paper(model, 1, query)[0], 1
        for _ in range(40):
            commit_to_both(base, model, some_writes(numbers, model, numbers.below(4) + 1))
            for name, query in queries.items():
                if numbers.below(3) == 0:
                    lines[name] = slow_repair(model, base.version, Paper(2, query, lines[name]))[0]
                    since[name] = base.version
                    if numbers.below(2):
                        keeper.catch_up(name)
                    self.assertEqual(plain(model, base.version, query), keeper.answer(name))
                self.assertEqual(lines[name], keeper.kept_paper(name).lines())
                self.assertEqual(since[name], keeper.version_of(name))
                self.assertIsNone(wrong_line(base.snapshot(since[name]), keeper.kept_paper(name)))
                version = numbers.below(base.version)
                self.assertEqual(plain(model, version, query), keeper.answer(name, version))


class HitsTest(unittest.TestCase, Raises):

    def test_gap_lines(self):
        base = Base(2)
        base.add_table("r", 2)
        keeper = Keeper(base)
        keeper.keep("a", Query.read("r(x,1)"))
        self.assertEqual([("gap", 0, Box(2, ["", ""]))], keeper.kept_paper("a").lines())
        # The box of columns counts, not the box of the variables.
        for key in all_points(2, 2):
            self.assertEqual([("a", 0)], keeper.hits("r", key))
        base.commit([("insert", "r", (2, 0), 0)])
        keeper.catch_up()
        text = "gap 0 0,*\ngap 0 10,01\ngap 0 11,*\njoin 1 2 0\njoin 0 3 0\n"
        self.assertEqual(text, str(keeper.kept_paper("a")))
        expected = {
            (0, 3): [("a", 0)], (1, 1): [("a", 0)], (2, 1): [("a", 1)], (2, 0): [], (2, 2): [], (3, 0): [("a", 2)]}
        self.assertEqual(expected, {key: keeper.hits("r", key) for key in expected})

    def test_row_lines(self):
        base = small_base()
        keeper = Keeper(base)
        keeper.keep("a", Query.read("not s(x)"))
        self.assertEqual("point 0\npoint 1\njoin 0 1 0\nrow 0 2\npoint 3\njoin 3 4 0\njoin 2 5 0\n",
                         str(keeper.kept_paper("a")))
        self.assertEqual([[("a", 0)], [("a", 1)], [("a", 3)], [("a", 4)]],
                         [keeper.hits("s", (value,)) for value in range(4)])
        self.assertEqual([[]] * 4, [keeper.hits("r", (value,)) for value in range(4)])

    def test_a_table_that_is_named_several_times(self):
        base = Base(2)
        base.add_table("r", 2)
        base.commit([("insert", "r", (0, 1), 0), ("insert", "r", (1, 2), 0)])
        keeper = Keeper(base)
        query = Query.read("r(x,y), r(y,z), not r(z,x)")
        keeper.keep("a", query)
        lines = keeper.kept_paper("a").lines()
        [point] = [at for at, line in enumerate(lines) if line[0] == "point"]
        self.assertEqual(("point", (0, 1, 2)), lines[point])
        for key in all_points(2, 2):
            hits = keeper.hits(table="r", key=key)
            self.assertIs(key in ((0, 1), (1, 2), (2, 0)), ("a", point) in hits)
            expected = [("a", at) for at, line in enumerate(lines) if self.is_hit(query, line, "r", key)]
            self.assertEqual(expected, hits)
        # A line is there once, even if the key is that of two of its literals.
        keeper.keep("b", Query.read("not r(x,3), not r(3,x)"))
        [point] = [at for at, line in enumerate(keeper.kept_paper("b").lines()) if line == ("point", (3,))]
        self.assertEqual([("b", point)], [hit for hit in keeper.hits("r", (3, 3)) if hit[0] == "b"])

    def is_hit(self, query, line, table, key):
        literals = query.literals()
        if line[0] in ("gap", "row"):
            named = literals[line[1]][1]
            return named == table and (line[2].holds(key) if line[0] == "gap" else line[2] == key)
        return line[0] == "point" and any(
            literal[0] in ("row", "none") and literal[1] == table and put_in(literal, query.variables, line[1]) == key
            for literal in literals)

    def test_several_names_and_tables(self):
        numbers, many = Numbers(35), 0
        for seed in range(4):
            base, model = filled_pair(seed, 2, 2, 12)
            keeper = Keeper(base)
            for name, text in (("d", "r(x,y), not s(y)"), ("b", "t(x,y,x), s(x), x < y"),
                               ("c", "not r(x,x), r(x,1), r(1,x)"),
                               ("a", "s(x), not s(y), y < x"), ("e", "x < y"), ("f", "not r(1,2), r(2,2)")):
                keeper.keep(name, Query.read(text))
            keeper.release("b")
            keeper.keep("b", Query.read("t(1,x,y)"))
            base.commit([("insert", "r", key, 0) for key in all_points(2, 2) if base.payload("r", key) is None][:3])
            keeper.catch_up("a", "d")
            for table in "rst":
                for key in model.all_keys(table):
                    expected = [
                        (name, at) for name in keeper.names() for at, line in enumerate(keeper.kept_paper(name).lines())
                        if self.is_hit(keeper.kept_query(name), line, table, key)]
                    self.assertEqual(expected, keeper.hits(table, key))
                    many += len(expected) > 1
        self.assertGreater(many, 50)

    def test_papers_as_they_are_kept_now(self):
        base = small_base()
        keeper = Keeper(base)
        keeper.keep("a", QUERY)
        before = [keeper.hits("r", (value,)) for value in range(4)]
        base.commit([("delete", "r", (1,)), ("delete", "r", (0,)), ("delete", "r", (2,))])
        self.assertEqual(before, [keeper.hits("r", (value,)) for value in range(4)])
        keeper.catch_up()
        self.assertNotEqual(before, [keeper.hits("r", (value,)) for value in range(4)])

    def test_wrong_arguments(self):
        keeper = Keeper(small_base())
        keeper.keep("a", QUERY)
        for table in ("u", "a", EqualsAll()) + NOT_NAMES:
            self.must_raise(UnknownTable, {"value": table}, keeper.hits, table, None)
        for key in ((), (4,), (-1,), (True,), (0, 0), (None,), EqualsAll()) + NOT_TUPLES:
            self.must_raise(InvalidKey, {"value": key}, keeper.hits, "r", key)

    def test_a_commit_breaks_only_lines_that_are_hit(self):
        numbers, broken_ones, not_broken = Numbers(36), 0, 0
        for text in ("r(x,y), not s(y)", "t(x,y,x), s(x), x < y", "not r(x,x), r(x,1)", "s(x), not s(y)", "not r(1,2)"):
            base, model = filled_pair(2, 2, 1, 20)
            keeper = Keeper(base)
            keeper.keep("a", Query.read(text))
            for _ in range(30):
                commit_to_both(base, model, some_writes(numbers, model, 1 + numbers.below(2)))
                hits = {number for table, key in base.changed_keys() for _, number in keeper.hits(table, key)}
                broken = set(broken_lines(base.snapshot(), keeper.kept_paper("a")))
                self.assertTrue(broken <= hits)
                broken_ones += len(broken)
                not_broken += len(hits - broken)
                keeper.catch_up()
        # A hit does not always break a line.
        self.assertGreater(broken_ones, 30)
        self.assertGreater(not_broken, 10)


if __name__ == "__main__":
    unittest.main()
