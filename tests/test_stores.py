"""Points [38] and [44]: stores, their tables, constraints, pins and forgetting."""

import unittest

import test_bases
from coverstore.boxes import Box
from coverstore.errors import Changed, Held, InvalidName, InvalidValue, NameTaken, NotEmpty, TooMany, TooOld
from coverstore.errors import UnknownName, UnknownTable, UnknownVersion, Violated, WrongColumns
from coverstore.keepers import Keeper
from coverstore.queries import Query
from coverstore.sources import Snapshot
from coverstore.stores import Store

from helpers import NAMES, NOT_INTEGERS, NOT_NAMES, EqualsAll, Raises
from pairs import change
from test_commits import small_store

EMPTY = Query.read("r(x,x), s(x), x < 2")

NO_VERSIONS = (-1, 5, 2 ** 70, EqualsAll()) + tuple(value for value in NOT_INTEGERS if value is not None)


def with_versions(many):
    """A store with so many versions; at each one another row of s."""
    store = Store(3)
    store.add_table("s", 1)
    for version in range(many):
        change(store, ("insert", "s", (version,), version))
    return store


class TablesTest(test_bases.TablesTest):
    """The tables of a store are as those of a base."""

    @staticmethod
    def made(bits):
        return Store(bits=bits)


class StoreTest(unittest.TestCase, Raises):

    def test_new_stores(self):
        store = Store(3)
        self.assertEqual((3, 0, 0), (store.bits, store.version, store.oldest))
        self.assertEqual(([], [], {}), (store.tables(), store.constraints(), store.pins()))
        self.assertIs(Keeper, type(store.keeper))
        self.assertIs(store.keeper, store.keeper)
        self.assertIsNot(store.keeper, Store(3).keeper)
        self.assertEqual([], store.keeper.names())

    def test_snapshots(self):
        store = with_versions(4)
        for version in range(5):
            snapshot = store.snapshot(version=version)
            self.assertIs(Snapshot, type(snapshot))
            self.assertEqual((version, version), (snapshot.version, len(snapshot.keys_in("s", Box.whole(3, 1)))))
        self.assertEqual((4, 4), (store.snapshot().version, store.snapshot(None).version))
        for version in NO_VERSIONS:
            self.must_raise(UnknownVersion, {"value": version}, store.snapshot, version)
        store.forget(2)
        self.must_raise(TooOld, {"least": 2}, store.snapshot, 1)
        self.must_raise(UnknownVersion, {"value": 5}, store.snapshot, 5)

    def test_the_keeper(self):
        store = with_versions(2)
        store.keeper.keep("all", Query.read("s(x)"))
        store.require("all", Query.read("s(7)"))
        self.assertEqual((["all"], ["all"]), (store.keeper.names(), store.constraints()))
        change(store, ("insert", "s", (5,), 0))
        self.assertEqual([(0,), (1,), (5,)], store.keeper.answer("all"))
        self.assertEqual(Query.read("s(x)"), store.keeper.kept_query("all"))
        store.keeper.release("all")
        self.assertEqual(["all"], store.constraints())
        self.assertRaises(Violated, change, store, ("insert", "s", (7,), 0))


class RequireTest(unittest.TestCase, Raises):

    def test_constraints_that_hold(self):
        store = small_store()
        for name in NAMES:
            self.assertIsNone(store.require(name, EMPTY))
        self.assertEqual(list(NAMES), store.constraints())
        told = store.constraints()
        told.clear()
        self.assertEqual(list(NAMES), store.constraints())
        store.require(name="c", query=EMPTY)
        self.assertEqual(list(NAMES) + ["c"], store.constraints())

    def test_names_of_tables_pins_and_kept_queries(self):
        store = small_store()
        store.keeper.keep("a", EMPTY)
        store.pin("b")
        for name in ("a", "b", "r"):
            store.require(name, EMPTY)
        store.pin("a")
        store.keeper.keep("r", EMPTY)
        self.assertEqual((["a", "b", "r"], ["a", "r"], {"a": 1, "b": 1}),
                         (store.constraints(), store.keeper.names(), store.pins()))

    def test_wrong_names_first(self):
        store = small_store()
        for name in NOT_NAMES + (EqualsAll(),):
            self.must_raise(InvalidName, {"value": name}, store.require, name, Query.read("u(x)"))
        store.require("a", EMPTY)
        for query in (EMPTY, Query.read("u(x)"), Query.read("s(x)")):
            self.must_raise(NameTaken, {"name": "a"}, store.require, "a", query)
        self.assertEqual(["a"], store.constraints())

    def test_queries_that_do_not_fit(self):
        store = small_store()
        for text, kind, told in (("u(x)", UnknownTable, {"value": "u"}), ("r(x)", WrongColumns, {"position": 0}),
                                 ("s(x), x < 4", InvalidValue, {"value": 4})):
            self.must_raise(kind, told, store.require, "a", Query.read(text))
        self.must_raise(TooMany, {"kind": "lines", "limit": 2000}, Store(10).require, "a", Query.read("x <= x"))
        self.assertEqual([], store.constraints())

    def test_constraints_that_do_not_hold(self):
        store = small_store()
        for text, point in (("r(x,y)", (0, 1)), ("r(x,y), y != 1 by y,x", (2, 0)), ("s(3)", ()), ("not s(x)", (0,)),
                            ("x < y", (0, 1))):
            self.must_raise(NotEmpty, {"point": point}, store.require, "a", Query.read(text))
        self.assertEqual([], store.constraints())
        self.assertEqual(2, change(store, ("insert", "r", (1, 1), 0)))

    def test_at_the_newest_version(self):
        store = small_store()
        change(store, ("delete", "s", (3,)))
        store.require("a", Query.read("s(x)"))
        transaction = store.begin()
        transaction.add_row("s", (2,), 0)
        self.must_raise(Violated, {"name": "a", "point": (2,)}, transaction.commit)


class PinsTest(unittest.TestCase, Raises):

    def test_pins(self):
        store = with_versions(4)
        self.assertIsNone(store.pin("c", 2))
        self.assertIsNone(store.pin("a"))
        store.pin(name="b", version=2)
        store.pin("d", None)
        self.assertEqual([("a", 4), ("b", 2), ("c", 2), ("d", 4)], list(store.pins().items()))
        change(store, ("delete", "s", (0,)))
        self.assertEqual({"a": 4, "b": 2, "c": 2, "d": 4}, store.pins())
        self.assertIsNone(store.unpin("c"))
        store.unpin(name="a")
        self.assertEqual([("b", 2), ("d", 4)], list(store.pins().items()))
        store.pin("a", 0)
        self.assertEqual([("a", 0), ("b", 2), ("d", 4)], list(store.pins().items()))
        store.pins().clear()
        self.assertEqual(3, len(store.pins()))

    def test_good_names(self):
        store = Store(1)
        for name in NAMES:
            store.pin(name)
        self.assertEqual(sorted(NAMES), list(store.pins()))

    def test_errors_of_pin(self):
        store = with_versions(4)
        for name in NOT_NAMES + (EqualsAll(),):
            self.must_raise(InvalidName, {"value": name}, store.pin, name, -1)
        store.pin("a", 1)
        for version in (1, None, -1):
            self.must_raise(NameTaken, {"name": "a"}, store.pin, "a", version)
        for version in NO_VERSIONS:
            self.must_raise(UnknownVersion, {"value": version}, store.pin, "b", version)
        store.unpin("a")
        store.forget(2)
        self.must_raise(TooOld, {"least": 2}, store.pin, "a", 1)
        store.pin("a", 2)
        self.assertEqual({"a": 2}, store.pins())

    def test_errors_of_unpin(self):
        store = with_versions(1)
        store.pin("a")
        store.pin("b")
        store.unpin("b")
        for name in ("b", "c", EqualsAll()) + NOT_NAMES:
            self.must_raise(UnknownName, {"value": name}, store.unpin, name)
        self.assertEqual({"a": 1}, store.pins())


class ForgetTest(unittest.TestCase, Raises):

    def test_nothing_holds(self):
        store = with_versions(4)
        self.assertIsNone(store.forget(version=2))
        self.assertEqual((2, 4), (store.oldest, store.version))
        store.forget(2)
        self.must_raise(TooOld, {"least": 2}, store.snapshot, 1)
        store.forget(4)
        self.assertEqual(4, store.oldest)
        self.assertEqual(3, store.snapshot().payload("s", (3,)))

    def test_as_base_forget_first(self):
        store = with_versions(4)
        store.pin("a", 2)
        store.forget(1)
        for version in NO_VERSIONS + (None,):
            self.must_raise(UnknownVersion, {"value": version}, store.forget, version)
        self.must_raise(TooOld, {"least": 1}, store.forget, 0)
        self.must_raise(Held, {"earliest": 2}, store.forget, 3)
        self.assertEqual(1, store.oldest)

    def test_pins_hold(self):
        store = with_versions(4)
        for name, version in (("c", 3), ("a", 2), ("b", 4)):
            store.pin(name, version)
        for version in (3, 4):
            self.must_raise(Held, {"earliest": 2}, store.forget, version)
        self.assertEqual(0, store.oldest)
        for version in (0, 1, 2):
            store.forget(version)
            self.assertEqual(version, store.oldest)
        store.unpin("a")
        self.must_raise(Held, {"earliest": 3}, store.forget, 4)
        store.forget(3)
        store.unpin("c")
        store.forget(4)
        self.assertEqual((4, {"b": 4}), (store.oldest, store.pins()))

    def test_open_transactions_hold(self):
        store = with_versions(2)
        one, other = store.begin(), store.begin()
        change(store, ("insert", "s", (5,), 0))
        third = store.begin()
        change(store, ("insert", "s", (6,), 0))
        self.must_raise(Held, {"earliest": 2}, store.forget, 3)
        store.forget(2)
        one.abandon()
        self.must_raise(Held, {"earliest": 2}, store.forget, 4)
        self.assertEqual(2, other.commit())
        self.must_raise(Held, {"earliest": 3}, store.forget, 4)
        store.forget(3)
        third.drop_row("s", (0,))
        self.assertEqual(5, third.commit())
        store.forget(5)
        self.assertEqual((5, 5), (store.oldest, store.version))

    def test_refused_commits_hold_no_more(self):
        store = with_versions(2)
        transaction = store.begin()
        transaction.ask(Query.read("s(x)"))
        transaction.add_row("s", (7,), 0)
        change(store, ("insert", "s", (5,), 0))
        self.must_raise(Held, {"earliest": 2}, store.forget, 3)
        self.assertRaises(Changed, transaction.commit)
        store.forget(3)
        self.assertEqual(3, store.oldest)

    def test_pins_and_transactions(self):
        store = with_versions(2)
        store.pin("a", 1)
        transaction = store.begin()
        change(store, ("insert", "s", (5,), 0))
        self.must_raise(Held, {"earliest": 1}, store.forget, 2)
        store.unpin("a")
        store.forget(2)
        self.must_raise(Held, {"earliest": 2}, store.forget, 3)
        store.pin("b", 2)
        transaction.abandon()
        self.must_raise(Held, {"earliest": 2}, store.forget, 3)
        store.unpin("b")
        store.forget(3)

    def test_open_transactions_go_on_after_forgetting(self):
        store = with_versions(3)
        transaction = store.begin()
        change(store, ("delete", "s", (0,)))
        store.forget(3)
        self.assertEqual([(0,), (1,), (2,)], transaction.ask(Query.read("s(x)")))
        transaction.add_row("s", (7,), 0)
        self.assertEqual([(0,), (1,), (2,), (7,)], transaction.ask(Query.read("s(x)")))

    def test_kept_queries_do_not_hold(self):
        store = with_versions(3)
        store.keeper.keep("a", Query.read("s(x)"))
        store.require("b", Query.read("s(7)"))
        change(store, ("delete", "s", (0,)))
        store.forget(4)
        self.assertEqual([(1,), (2,)], store.keeper.answer("a"))
        self.assertRaises(Violated, change, store, ("insert", "s", (7,), 0))


class ReadingTest(unittest.TestCase):
    """What a store tells of its base."""

    def test_changes_and_breaks(self):
        store = with_versions(3)
        change(store, ("delete", "s", (1,)))
        self.assertEqual([[], [("s", (0,))], [("s", (1,))], [("s", (2,))], [("s", (1,))]],
                         [store.changed_keys(version) for version in range(5)])
        self.assertEqual([("s", (1,))], store.changed_keys())
        self.assertEqual([2, 2, 4, 4, None], [store.presence_break("s", (1,), version) for version in range(5)])
        self.assertEqual((3, None), (store.clear_break("s", Box(3, ["010"]), 1), store.clear_break("s", Box(3, ["1"]))))


if __name__ == "__main__":
    unittest.main()
