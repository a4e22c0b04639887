"""Points [38] and [40]: transactions, their acts, what each act sees, and which calls are no acts."""

import unittest

from coverstore.errors import Changed, Ended, InvalidGroups, InvalidKey, InvalidLimit, InvalidPayload, InvalidValue
from coverstore.errors import KeyTaken, NoSuchRow, TooMany, UnknownTable, Violated, WrongColumns
from coverstore.queries import Query
from coverstore.stores import Store
from coverstore.transactions import Transaction

from helpers import NOT_INTEGERS, NOT_NAMES, NOT_TUPLES, EqualsAll, Raises

QUERY = Query.read("r(x,y), not s(x)")

ALL = Query.read("r(x,y)")


def small_store():
    """Version 1 has r(0,1), r(0,2), r(2,2) and s(3)."""
    store = Store(2)
    store.add_table("r", 2, (1, 0))
    store.add_table("s", 1)
    transaction = store.begin()
    for key, payload in (((0, 1), 5), ((0, 2), 6), ((2, 2), 7)):
        transaction.add_row("r", key, payload)
    transaction.add_row("s", (3,), -1)
    transaction.commit()
    return store


class BeginTest(unittest.TestCase):

    def test_new_transactions(self):
        store = small_store()
        transaction = store.begin()
        self.assertIs(Transaction, type(transaction))
        self.assertEqual((1, True, [], []),
                         (transaction.version, transaction.is_open, transaction.acts(), transaction.writes()))
        self.assertIsNot(transaction, store.begin())
        self.assertFalse(transaction == store.begin())
        self.assertEqual(0, Store(1).begin().version)

    def test_the_snapshot_stays(self):
        store = small_store()
        one, other = store.begin(), store.begin()
        other.drop_row("r", (2, 2))
        other.add_row("s", (0,), 0)
        self.assertEqual(2, other.commit())
        self.assertEqual((1, 2), (one.version, store.version))
        self.assertEqual([(0, 1), (0, 2), (2, 2)], one.ask(QUERY))
        self.assertEqual({(0,): 2, (2,): 1}, one.groups(ALL, ("x",)))
        self.assertEqual([], store.begin().ask(QUERY))

    def test_tables_that_are_added_later(self):
        store = small_store()
        transaction = store.begin()
        store.add_table("t", 1)
        self.assertEqual([], transaction.ask(Query.read("t(x)")))
        transaction.add_row("t", (1,), 0)
        self.assertEqual([(1,)], transaction.ask(Query.read("t(x)")))
        self.assertEqual(2, transaction.commit())


class ActsTest(unittest.TestCase, Raises):

    def test_each_act_in_sequence(self):
        transaction = small_store().begin()
        self.assertEqual([(0, 1), (0, 2), (2, 2)], transaction.ask(QUERY))
        self.assertIsNone(transaction.add_row("s", (0,), 10))
        self.assertEqual([(2, 2)], transaction.ask(QUERY))
        self.must_raise(KeyTaken, {"table": "s", "key": (0,)}, transaction.add_row, "s", (0,), 11)
        self.assertIsNone(transaction.change_row("r", (2, 2), -7))
        self.assertEqual({(): -7}, transaction.groups(QUERY, (), "sum", 0))
        self.must_raise(NoSuchRow, {"table": "r", "key": (1, 1)}, transaction.change_row, "r", (1, 1), 0)
        self.assertIsNone(transaction.drop_row("s", (0,)))
        self.must_raise(NoSuchRow, {"table": "s", "key": (0,)}, transaction.drop_row, "s", (0,))
        self.assertEqual({(1,): 0, (2,): 0}, transaction.groups(QUERY, ("y",), "least", "x"))
        acts = [
            ("ask", QUERY, [(0, 1), (0, 2), (2, 2)]),
            ("insert", "s", (0,), 10, "done"),
            ("ask", QUERY, [(2, 2)]),
            ("insert", "s", (0,), 11, "refused"),
            ("update", "r", (2, 2), -7, "done"),
            ("groups", QUERY, (), "sum", 0, {(): -7}),
            ("update", "r", (1, 1), 0, "refused"),
            ("delete", "s", (0,), "done"),
            ("delete", "s", (0,), "refused"),
            ("groups", QUERY, ("y",), "least", "x", {(1,): 0, (2,): 0}),
        ]
        writes = [("insert", "s", (0,), 10), ("update", "r", (2, 2), -7), ("delete", "s", (0,))]
        self.assertEqual((acts, writes), (transaction.acts(), transaction.writes()))
        self.assertEqual(2, transaction.commit())
        self.assertEqual((acts, writes), (transaction.acts(), transaction.writes()))

    def test_a_key_that_is_written_several_times(self):
        transaction = small_store().begin()
        key = (2, 2)
        for call, *more in ((transaction.drop_row,), (transaction.add_row, 1), (transaction.change_row, 2),
                            (transaction.drop_row,), (transaction.add_row, 3)):
            call("r", key, *more)
        self.assertEqual({(): 3}, transaction.groups(Query.read("r(2,x)"), (), "sum", 0))
        self.must_raise(KeyTaken, {"table": "r", "key": key}, transaction.add_row, "r", key, 4)
        self.assertEqual(5, len(transaction.writes()))

    def test_refused_writes_change_nothing(self):
        store = small_store()
        transaction = store.begin()
        before = transaction.ask(ALL)
        self.must_raise(KeyTaken, {"table": "r", "key": (0, 1)}, transaction.add_row, "r", (0, 1), 100)
        self.must_raise(NoSuchRow, {"table": "r", "key": (3, 3)}, transaction.change_row, "r", (3, 3), 100)
        self.must_raise(NoSuchRow, {"table": "r", "key": (3, 3)}, transaction.drop_row, "r", (3, 3))
        self.assertEqual((before, {(): 18}), (transaction.ask(ALL), transaction.groups(ALL, (), "sum", 0)))
        self.assertEqual([], transaction.writes())
        self.assertEqual(["refused"] * 3, [act[-1] for act in transaction.acts()[1:4]])
        self.assertEqual((1, 1), (transaction.commit(), store.version))

    def test_nothing_is_seen_outside_before_the_commit(self):
        store = small_store()
        one, other = store.begin(), store.begin()
        one.drop_row("r", (0, 1))
        self.assertEqual([(0, 1), (0, 2), (2, 2)], other.ask(ALL))
        self.assertEqual([(0, 1), (0, 2), (2, 2)], store.begin().ask(ALL))
        self.assertEqual((5, 1), (store.snapshot().payload("r", (0, 1)), store.version))

    def test_names_of_arguments(self):
        transaction = small_store().begin()
        transaction.add_row(table="s", key=(1,), payload=2)
        transaction.change_row(table="s", key=(1,), payload=10 ** 9)
        transaction.drop_row(table="s", key=(1,))
        transaction.add_row("s", payload=-10 ** 9, key=(1,))
        self.assertEqual([(1,), (3,)], transaction.ask(query=Query.read("s(x)"), limit=7))
        self.assertEqual({(1,): -10 ** 9, (3,): -1},
                         transaction.groups(query=Query.read("s(x)"), by=("x",), what="sum", of=0, limit=7))
        self.assertEqual({(): 2}, transaction.groups(Query.read("s(x)")))
        self.assertEqual(("groups", Query.read("s(x)"), (), "count", None, {(): 2}), transaction.acts()[-1])
        self.assertRaises(TypeError, transaction.ask, QUERY, 2000)
        self.assertRaises(TypeError, transaction.groups, QUERY, (), "count", None, 2000)

    def test_returned_lists_and_dicts_are_new(self):
        transaction = small_store().begin()
        answer = transaction.ask(ALL)
        results = transaction.groups(ALL, ("x",))
        transaction.drop_row("r", (0, 1))
        answer.clear()
        results.clear()
        for _ in range(2):
            acts, writes = transaction.acts(), transaction.writes()
            self.assertEqual(("ask", ALL, [(0, 1), (0, 2), (2, 2)]), acts[0])
            self.assertEqual({(0,): 2, (2,): 1}, acts[1][5])
            self.assertEqual([("delete", "r", (0, 1))], writes)
            acts[0][2].append((3, 3))
            acts[1][5][(3,)] = 1
            acts.clear()
            writes.clear()
        # What was changed by the caller does not count when the acts are gone through.
        self.assertEqual(2, transaction.commit())
        self.assertEqual(3, len(transaction.acts()))

    def test_results_are_in_ascending_order(self):
        store = Store(2)
        store.add_table("r", 2, (1, 0))
        transaction = store.begin()
        for key in ((3, 0), (1, 2), (2, 1), (0, 3)):
            transaction.add_row("r", key, 0)
        for by in (("x",), ("y",), ("y", "x")):
            results = transaction.groups(Query.read("r(x,y)"), by)
            self.assertEqual(sorted(results), list(results))
            results = transaction.acts()[-1][5]
            self.assertEqual(sorted(results), list(results))


class NoActsTest(unittest.TestCase, Raises):
    """Calls that raise other errors than KeyTaken and NoSuchRow are no acts, and change nothing."""

    def setUp(self):
        self.transaction = small_store().begin()
        self.transaction.add_row("s", (0,), 1)

    def tearDown(self):
        self.assertEqual([("insert", "s", (0,), 1, "done")], self.transaction.acts())
        self.assertEqual([("insert", "s", (0,), 1)], self.transaction.writes())
        self.assertIs(True, self.transaction.is_open)

    def test_tables(self):
        one = self.transaction
        for table in ("u", "R", EqualsAll()) + NOT_NAMES:
            told = {"value": table}
            self.must_raise(UnknownTable, told, one.add_row, table, None, None)
            self.must_raise(UnknownTable, told, one.change_row, table, None, None)
            self.must_raise(UnknownTable, told, one.drop_row, table, None)

    def test_keys(self):
        one = self.transaction
        for key in ((), (4,), (-1,), (True,), (0, 0), (None,), ("0",), EqualsAll()) + NOT_TUPLES:
            self.must_raise(InvalidKey, {"value": key}, one.add_row, "s", key, None)
            self.must_raise(InvalidKey, {"value": key}, one.change_row, "s", key, None)
            self.must_raise(InvalidKey, {"value": key}, one.drop_row, "s", key)

    def test_payloads(self):
        one = self.transaction
        for payload in (10 ** 9 + 1, -10 ** 9 - 1, 10 ** 40, EqualsAll()) + NOT_INTEGERS:
            for key in ((0,), (1,)):
                self.must_raise(InvalidPayload, {"value": payload}, one.add_row, "s", key, payload)
                self.must_raise(InvalidPayload, {"value": payload}, one.change_row, "s", key, payload)

    def test_questions(self):
        one = self.transaction
        for text, kind, told in (("u(x)", UnknownTable, {"value": "u"}), ("r(x)", WrongColumns, {"position": 0}),
                                 ("s(x), x < 4", InvalidValue, {"value": 4})):
            self.must_raise(kind, told, one.ask, Query.read(text), limit=0)
            self.must_raise(kind, told, one.groups, Query.read(text), limit=0)
        for limit in (0, 100001, -1, EqualsAll()) + NOT_INTEGERS:
            self.must_raise(InvalidLimit, {"value": limit}, one.ask, QUERY, limit=limit)
            self.must_raise(InvalidLimit, {"value": limit}, one.groups, QUERY, limit=limit)
        self.must_raise(TooMany, {"kind": "lines", "limit": 3}, one.ask, QUERY, limit=3)
        self.must_raise(TooMany, {"kind": "lines", "limit": 3}, one.groups, QUERY, limit=3)

    def test_groupings(self):
        one = self.transaction
        for by, what, of, problem in ((["x"], "no", 7, "by"), (("z",), "sum", None, "by"), (("x", "x"), "no", 0, "by"),
                                      ((), "no", 7, "what"), ((), EqualsAll(), None, "what"), ((), "sum", None, "of"),
                                      ((), "sum", 1, "of"), ((), "count", 0, "of"), ((), "least", True, "of")):
            self.must_raise(InvalidGroups, {"problem": problem}, one.groups, QUERY, by, what, of, limit=0)
        # The grouping comes before the source.
        self.must_raise(InvalidGroups, {"problem": "by"}, one.groups, Query.read("u(x)"), ("z",))

    def test_the_usual_limit(self):
        store = Store(10)
        transaction = store.begin()
        every = Query.read("x <= x")
        self.must_raise(TooMany, {"kind": "lines", "limit": 2000}, transaction.ask, every)
        self.must_raise(TooMany, {"kind": "lines", "limit": 2000}, transaction.groups, every)
        self.assertEqual([], transaction.acts())
        self.assertEqual(1024, len(transaction.ask(every, limit=2047)))
        self.assertEqual({(): 1024}, transaction.groups(every, limit=2047))


class EndTest(unittest.TestCase, Raises):

    def assert_ended(self, transaction):
        acts, writes = transaction.acts(), transaction.writes()
        self.assertIs(False, transaction.is_open)
        for call in (transaction.commit, transaction.abandon):
            self.must_raise(Ended, {}, call)
        # Ended comes before all other errors.
        for given in (QUERY, Query.read("u(x)")):
            self.must_raise(Ended, {}, transaction.ask, given, limit=0)
            self.must_raise(Ended, {}, transaction.groups, given, None, None, None, limit=0)
        for table, key, payload in (("s", (0,), 1), ("r", (0, 1), 1), (None, None, None), ("s", None, None)):
            self.must_raise(Ended, {}, transaction.add_row, table, key, payload)
            self.must_raise(Ended, {}, transaction.change_row, table, key, payload)
            self.must_raise(Ended, {}, transaction.drop_row, table, key)
        self.assertEqual((acts, writes), (transaction.acts(), transaction.writes()))

    def some_acts(self, store):
        transaction = store.begin()
        transaction.ask(QUERY)
        transaction.add_row("s", (1,), 1)
        return transaction

    def test_abandoned(self):
        store = small_store()
        transaction = self.some_acts(store)
        self.assertIsNone(transaction.abandon())
        self.assert_ended(transaction)
        self.assertEqual((1, 1), (transaction.version, store.version))
        self.assertEqual([("insert", "s", (1,), 1)], transaction.writes())
        self.assertEqual(2, len(transaction.acts()))
        self.assertIsNone(store.snapshot().payload("s", (1,)))

    def test_committed(self):
        store = small_store()
        transaction = self.some_acts(store)
        self.assertEqual(2, transaction.commit())
        self.assert_ended(transaction)
        self.assertEqual((1, 2), (transaction.version, store.version))

    def test_committed_without_writes(self):
        store = small_store()
        transaction = store.begin()
        transaction.ask(QUERY)
        self.assertEqual(1, transaction.commit())
        self.assert_ended(transaction)

    def test_refused_for_a_change(self):
        store = small_store()
        transaction = self.some_acts(store)
        other = store.begin()
        other.drop_row("r", (2, 2))
        other.commit()
        self.must_raise(Changed, {"act": 0, "item": (2, 2)}, transaction.commit)
        self.assert_ended(transaction)
        self.assertEqual(2, store.version)

    def test_refused_for_a_constraint(self):
        store = small_store()
        store.require("no", Query.read("s(1)"))
        transaction = self.some_acts(store)
        self.must_raise(Violated, {"name": "no", "point": ()}, transaction.commit)
        self.assert_ended(transaction)
        self.assertEqual(1, store.version)

    def test_errors_of_other_calls_do_not_end_it(self):
        transaction = self.some_acts(small_store())
        self.assertRaises(KeyTaken, transaction.add_row, "s", (1,), 1)
        self.assertRaises(UnknownTable, transaction.ask, Query.read("u(x)"))
        self.assertIs(True, transaction.is_open)
        self.assertEqual(2, transaction.commit())


if __name__ == "__main__":
    unittest.main()
