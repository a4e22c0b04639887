"""Points [4], [39] and [40]: commits, what refuses them, and transactions that are open at the same time."""

import unittest

from coverstore.errors import Changed, KeyTaken, NoSuchRow, Violated
from coverstore.evaluating import plain_answer
from coverstore.queries import Query
from coverstore.reasons import what_if
from coverstore.stores import Store

from helpers import Numbers, Raises
from pairs import Pairs, change, write
from slow_store import SlowStore

ALL = Query.read("r(x,y)")
SECOND = Query.read("r(x,y) by y,x")


def small_store():
    """Version 1 has r(0,1), r(0,2), r(2,2) with the payloads 5, 6, 7, and s(3) with -1."""
    store = Store(2)
    store.add_table("r", 2, (1, 0))
    store.add_table("s", 1)
    change(store, ("insert", "r", (0, 1), 5), ("insert", "r", (0, 2), 6), ("insert", "r", (2, 2), 7),
           ("insert", "s", (3,), -1))
    return store


class WithoutWritesTest(unittest.TestCase, Raises):

    def test_the_version_of_the_snapshot(self):
        store = small_store()
        transaction = store.begin()
        transaction.ask(ALL)
        change(store, ("delete", "r", (0, 1)))
        change(store, ("insert", "s", (0,), 0))
        self.assertEqual((1, 3), (transaction.commit(), store.version))

    def test_refused_writes_alone_are_none(self):
        store = small_store()
        store.require("no", Query.read("s(1)"))
        transaction = store.begin()
        self.assertRaises(KeyTaken, transaction.add_row, "s", (3,), 0)
        self.assertRaises(NoSuchRow, transaction.drop_row, "s", (1,))
        change(store, ("delete", "s", (3,)))
        self.assertEqual((1, 2), (transaction.commit(), store.version))

    def test_no_acts(self):
        self.assertEqual(1, small_store().begin().commit())


class VersionsTest(unittest.TestCase):

    def test_the_next_version(self):
        store = small_store()
        one, other = store.begin(), store.begin()
        one.add_row("s", (0,), 10)
        other.add_row("s", (1,), 20)
        self.assertEqual((2, 3), (other.commit(), one.commit()))
        self.assertEqual([((0,), 10), ((1,), 20), ((3,), -1)],
                         [(key, store.snapshot().payload("s", key)) for key in ((0,), (1,), (3,))])
        self.assertIsNone(store.snapshot(2).payload("s", (0,)))

    def test_writes_that_cancel_each_other(self):
        store = small_store()
        transaction = store.begin()
        transaction.add_row("s", (0,), 0)
        transaction.drop_row("s", (0,))
        self.assertEqual((2, 2), (transaction.commit(), store.version))
        self.assertEqual([], store.changed_keys(2))


class ChangedTest(unittest.TestCase, Raises):

    def assert_refused(self, store, transaction, act, item):
        version = store.version
        before = [store.snapshot().payload(table, key) for table, key in (("s", (0,)), ("r", (0, 1)))]
        self.must_raise(Changed, {"act": act, "item": item}, transaction.commit)
        self.assertEqual((version, False), (store.version, transaction.is_open))
        self.assertEqual(before, [store.snapshot().payload(table, key) for table, key in (("s", (0,)), ("r", (0, 1)))])

    def begun(self, *calls):
        """A transaction with some acts, and a write at the end."""
        store = small_store()
        transaction = store.begin()
        for name, *given in calls:
            try:
                getattr(transaction, name)(*given)
            except (KeyTaken, NoSuchRow):
                pass
        transaction.add_row("s", (0,), 0)
        return store, transaction

    def test_answers(self):
        for query, writes, item in (
                (ALL, [("delete", "r", (2, 2))], (2, 2)),
                (ALL, [("insert", "r", (3, 0), 0)], (3, 0)),
                (ALL, [("delete", "r", (2, 2)), ("insert", "r", (1, 3), 0)], (1, 3)),
                (ALL, [("delete", "r", (0, 2)), ("insert", "r", (1, 3), 0)], (0, 2)),
                (SECOND, [("insert", "r", (1, 3), 0), ("insert", "r", (3, 0), 0)], (0, 3)),
                (Query.read("s(2)"), [("insert", "s", (2,), 0)], ()),
                (Query.read("not s(2)"), [("insert", "s", (2,), 0)], ()),
                (Query.read("not s(x), 1 <= x"), [("insert", "s", (2,), 0), ("delete", "s", (3,))], (2,))):
            store, transaction = self.begun(("ask", query))
            change(store, *writes)
            self.assert_refused(store, transaction, 0, item)

    def test_changes_that_an_answer_does_not_show(self):
        for query, writes in ((ALL, [("update", "r", (2, 2), 70)]), (ALL, [("insert", "s", (1,), 0)]),
                              (Query.read("r(0,x)"), [("delete", "r", (2, 2))]),
                              (Query.read("r(x,y), not s(x)"), [("insert", "s", (1,), 0)])):
            store, transaction = self.begun(("ask", query))
            change(store, *writes)
            self.assertEqual(3, transaction.commit())

    def test_groups(self):
        for grouping, writes, item in (
                ((ALL, ("x",)), [("delete", "r", (2, 2))], (2,)),
                ((ALL, ("x",)), [("insert", "r", (1, 1), 0)], (1,)),
                ((ALL, ("x",)), [("delete", "r", (0, 1)), ("insert", "r", (3, 1), 0)], (0,)),
                ((ALL, ("y", "x")), [("delete", "r", (2, 2)), ("insert", "r", (3, 1), 0)], (1, 3)),
                ((ALL, ("x",), "sum", 0), [("update", "r", (2, 2), 70)], (2,)),
                ((ALL, ("x",), "sum", 0), [("update", "r", (0, 1), 6), ("update", "r", (2, 2), 70)], (0,)),
                ((ALL, (), "greatest", 0), [("update", "r", (2, 2), 8)], ()),
                ((ALL, (), "least", "y"), [("insert", "r", (3, 0), 8)], ())):
            store, transaction = self.begun(("groups", *grouping))
            change(store, *writes)
            self.assert_refused(store, transaction, 0, item)

    def test_changes_that_groups_do_not_show(self):
        for grouping, writes in (
                ((ALL, ("x",)), [("update", "r", (2, 2), 70)]),
                ((ALL, ("x",)), [("delete", "r", (0, 1)), ("insert", "r", (0, 3), 0)]),
                ((ALL, ("x",), "sum", 0), [("update", "r", (0, 1), 6), ("update", "r", (0, 2), 5)]),
                ((ALL, (), "greatest", 0), [("update", "r", (0, 1), 0), ("delete", "r", (0, 2))]),
                ((ALL, (), "least", "y"), [("insert", "r", (3, 3), 8)])):
            store, transaction = self.begun(("groups", *grouping))
            change(store, *writes)
            self.assertEqual(3, transaction.commit())

    def test_writes(self):
        for call, writes, item in (
                (("add_row", "s", (1,), 0), [("insert", "s", (1,), 0)], (1,)),
                (("add_row", "s", (3,), 0), [("delete", "s", (3,))], (3,)),
                (("change_row", "r", (0, 1), 0), [("delete", "r", (0, 1))], (0, 1)),
                (("change_row", "r", (1, 1), 0), [("insert", "r", (1, 1), 0)], (1, 1)),
                (("drop_row", "r", (0, 1)), [("delete", "r", (0, 1))], (0, 1)),
                (("drop_row", "s", (2,)), [("insert", "s", (2,), 9)], (2,))):
            store, transaction = self.begun(call)
            change(store, *writes)
            self.assert_refused(store, transaction, 0, item)

    def test_other_payloads_do_not_matter_for_writes(self):
        store, transaction = self.begun(("change_row", "r", (0, 1), 50), ("drop_row", "r", (0, 2)),
                                        ("add_row", "s", (3,), 0))
        change(store, ("update", "r", (0, 1), 9), ("update", "r", (0, 2), 9), ("update", "s", (3,), 9))
        self.assertEqual(3, transaction.commit())
        self.assertEqual((50, None, 9), tuple(store.snapshot().payload(*row) for row in (
            ("r", (0, 1)), ("r", (0, 2)), ("s", (3,)))))

    def test_the_first_of_several(self):
        store, transaction = self.begun(("ask", Query.read("s(x)")), ("ask", ALL), ("drop_row", "r", (0, 1)),
                                        ("groups", ALL, ("x",)))
        change(store, ("delete", "r", (0, 1)))
        self.assert_refused(store, transaction, 1, (0, 1))
        store, transaction = self.begun(("drop_row", "r", (0, 1)), ("ask", ALL))
        change(store, ("delete", "r", (0, 1)))
        self.assert_refused(store, transaction, 0, (0, 1))
        store, transaction = self.begun()
        change(store, ("insert", "s", (0,), 0))
        self.assert_refused(store, transaction, 0, (0,))

    def test_the_earlier_writes_are_laid_over(self):
        # Both have deleted the row; the question after the own deletion has the same answer again.
        store, transaction = self.begun(("add_row", "r", (1, 1), 0), ("ask", Query.read("r(1,x)")),
                                        ("drop_row", "r", (1, 1)), ("ask", Query.read("r(1,x)")))
        change(store, ("delete", "r", (2, 2)))
        self.assertEqual(3, transaction.commit())
        store, transaction = self.begun(("change_row", "r", (0, 1), 50), ("groups", ALL, (), "least", 0))
        change(store, ("update", "r", (0, 1), 1))
        self.assertEqual(3, transaction.commit())

    def test_a_change_that_was_taken_back(self):
        store, transaction = self.begun(("ask", ALL), ("groups", ALL, (), "sum", 0), ("drop_row", "r", (0, 1)))
        change(store, ("delete", "r", (0, 1)), ("insert", "r", (3, 3), 0))
        change(store, ("insert", "r", (0, 1), 5), ("delete", "r", (3, 3)))
        self.assertEqual(4, transaction.commit())

    def test_limits_do_not_apply(self):
        store = Store(10)
        store.add_table("r", 1)
        store.add_table("s", 1)
        query = Query.read("r(x), not s(x)")
        transaction = store.begin()
        self.assertEqual([], transaction.ask(query, limit=1))
        self.assertEqual({}, transaction.groups(query, limit=1))
        transaction.add_row("r", (1020,), 0)
        # None of these rows is in the answer; it takes more than 2000 lines to show this.
        change(store, *[("insert", table, (value,), 0) for value in range(1010) for table in "rs"])
        self.assertEqual(2, transaction.commit())

    def test_limits_do_not_apply_to_what_changed(self):
        store = Store(10)
        store.add_table("r", 1)
        transaction = store.begin()
        self.assertEqual([], transaction.ask(Query.read("r(x)"), limit=1))
        transaction.add_row("r", (1020,), 0)
        change(store, *[("insert", "r", (value,), 0) for value in range(7, 1020)])
        self.must_raise(Changed, {"act": 0, "item": (7,)}, transaction.commit)


class ViolatedTest(unittest.TestCase, Raises):

    def test_the_first_constraint_with_the_least_point(self):
        store = small_store()
        store.require("z", Query.read("s(x), r(x,x), x < 2"))
        store.require("a", Query.read("s(x), x < 2"))
        transaction = store.begin()
        transaction.add_row("s", (1,), 0)
        transaction.add_row("s", (0,), 0)
        self.must_raise(Violated, {"name": "a", "point": (0,)}, transaction.commit)
        transaction = store.begin()
        transaction.add_row("s", (1,), 0)
        transaction.add_row("r", (1, 1), 0)
        self.must_raise(Violated, {"name": "z", "point": (1,)}, transaction.commit)
        self.assertEqual((1, ["z", "a"]), (store.version, store.constraints()))
        self.assertEqual(2, change(store, ("insert", "s", (2,), 0)))

    def test_with_all_writes(self):
        store = small_store()
        store.require("both", Query.read("s(x), r(x,x), x < 2"))
        transaction = store.begin()
        transaction.add_row("s", (1,), 0)
        transaction.add_row("r", (1, 1), 0)
        transaction.drop_row("s", (1,))
        self.assertEqual(2, transaction.commit())

    def test_over_the_newest_version(self):
        store = small_store()
        store.require("both", Query.read("s(x), r(x,x), x < 2"))
        one, other = store.begin(), store.begin()
        one.add_row("s", (1,), 0)
        other.add_row("r", (1, 1), 0)
        self.assertEqual(2, one.commit())
        self.must_raise(Violated, {"name": "both", "point": (1,)}, other.commit)
        self.assertEqual(3, change(store, ("delete", "s", (1,)), ("insert", "r", (1, 1), 0)))

    def test_constraints_that_are_added_while_a_transaction_is_open(self):
        store = small_store()
        transaction = store.begin()
        transaction.add_row("s", (1,), 0)
        store.require("no", Query.read("s(1)"))
        self.must_raise(Violated, {"name": "no", "point": ()}, transaction.commit)

    def test_acts_before_constraints(self):
        store = small_store()
        store.require("no", Query.read("s(1)"))
        transaction = store.begin()
        transaction.ask(ALL)
        transaction.add_row("s", (1,), 0)
        change(store, ("delete", "r", (2, 2)))
        self.must_raise(Changed, {"act": 0, "item": (2, 2)}, transaction.commit)

    def test_after_refused_commits(self):
        store = small_store()
        store.require("few", Query.read("r(x,y), s(y), x < y"))
        for _ in range(3):
            transaction = store.begin()
            transaction.add_row("s", (2,), 0)
            self.must_raise(Violated, {"name": "few", "point": (0, 2)}, transaction.commit)
        self.assertEqual(2, change(store, ("delete", "r", (0, 2)), ("insert", "s", (2,), 0)))
        transaction = store.begin()
        transaction.add_row("r", (1, 3), 0)
        transaction.add_row("r", (0, 3), 0)
        self.must_raise(Violated, {"name": "few", "point": (0, 3)}, transaction.commit)


class ManyTransactionsTest(unittest.TestCase, Pairs):
    """Transactions that are open at the same time; each call is compared with the document's words."""

    CONSTRAINTS = (("rs", "r(x,3), not s(x)"), ("few", "s(0), s(1), s(2), s(3)"), ("ss", "r(x,x), s(x), x != 2"))

    def made(self, with_constraints):
        store, slow = Store(2), SlowStore(2)
        for one in (store, slow):
            one.add_table("r", 2, (1, 0))
            one.add_table("s", 1)
            for name, text in self.CONSTRAINTS if with_constraints else ():
                one.require(name, Query.read(text))
        return store, slow

    def test_mixed_sequences(self):
        ends = {"version": 0, "changed": 0, "violated": 0, "abandoned": 0}
        for seed in range(12):
            store, slow = self.made(seed % 3)
            numbers, pairs, committed = Numbers(seed), [], []
            for _ in range(120):
                if len(pairs) < 4 and numbers.below(4) == 0:
                    pairs.append((store.begin(), slow.begin()))
                elif pairs:
                    pair = numbers.one_of(pairs)
                    if numbers.below(6):
                        self.act(numbers, *pair)
                    else:
                        pairs.remove(pair)
                        word = self.end(numbers, *pair)
                        ends[word] += 1
                        if word == "version" and pair[0].writes():
                            committed.append(pair[0].acts())
                self.assertEqual(slow.version, store.version)
            self.assert_one_after_another(seed % 3, committed)
            for version, rows in enumerate(slow.model.versions):
                snapshot = store.snapshot(version)
                for table in ("r", "s"):
                    for key in slow.model.all_keys(table):
                        self.assertEqual(rows.get((table, key)), snapshot.payload(table, key))
        self.assertGreater(min(ends.values()), 8)

    def assert_one_after_another(self, with_constraints, committed):
        """The committed transactions, each alone in a new store, get all their answers and outcomes again."""
        store, _ = self.made(with_constraints)
        for number, acts in enumerate(committed):
            transaction = store.begin()
            for kind, *parts in acts:
                if kind == "ask":
                    transaction.ask(parts[0])
                elif kind == "groups":
                    transaction.groups(*parts[:-1])
                else:
                    try:
                        write(transaction, kind, *parts[:-1])
                    except (KeyTaken, NoSuchRow):
                        self.assertEqual("refused", parts[-1])
            self.assertEqual(acts, transaction.acts())
            self.assertEqual(number + 1, transaction.commit())


class KeeperTest(unittest.TestCase):

    def test_the_keeper_follows_the_commits(self):
        store = small_store()
        keeper = store.keeper
        keeper.keep("a", ALL)
        change(store, ("delete", "r", (2, 2)))
        self.assertIs(keeper, store.keeper)
        self.assertEqual(1, keeper.version_of("a"))
        self.assertEqual([(0, 1), (0, 2)], keeper.answer("a"))
        self.assertEqual(plain_answer(store.snapshot(1), ALL), keeper.answer("a", 1))
        self.assertEqual(2, keeper.version_of("a"))
        self.assertEqual([("a", [(0, 1)], [])], what_if(keeper, [("delete", "r", (0, 1))]))


if __name__ == "__main__":
    unittest.main()
