"""Points [10] to [12] and [14]: tables, commits, versions, breaks, forgetting."""

import unittest

from coverstore.bases import Base
from coverstore.boxes import Box
from coverstore.errors import InvalidBits, InvalidColumns, InvalidKey, InvalidName, InvalidOrder, InvalidWrite
from coverstore.errors import KeyTaken, NameTaken, NoSuchRow, NotClear, TooMany, TooOld
from coverstore.errors import UnknownTable, UnknownVersion, Unlike
from coverstore.sources import Snapshot

from helpers import NAMES, NOT_INTEGERS, NOT_LISTS, NOT_NAMES, NOT_TUPLES, EqualsAll, Raises

NO_TABLES = ("c", "A", "aa", EqualsAll()) + NOT_NAMES
NO_KEYS = ((0,), (0, 0, 0), (), (0, 8), (-1, 0), (True, 0), (0, False), ("0", 0), (None, 0), EqualsAll()) + NOT_TUPLES
NO_VERSIONS = (-1, 4, 2 ** 70, EqualsAll()) + tuple(value for value in NOT_INTEGERS if value is not None)


def small_base():
    """Two tables; four versions: (1, 2) is there from 1 on, (3, 4) is there at 2 only."""
    base = Base(3)
    base.add_table("a", 2)
    base.add_table("b", 1)
    base.commit([("insert", "a", (1, 2), 10), ("insert", "b", (7,), 0)])
    base.commit([("insert", "a", (3, 4), -5), ("delete", "b", (7,))])
    base.commit([("delete", "a", (3, 4)), ("update", "a", (1, 2), 11)])
    return base


def assert_new_lists(case, call):
    """Each call returns a new list."""
    one, other = call(), call()
    case.assertIs(list, type(one))
    case.assertIsNot(one, other)
    one.append("x")
    case.assertEqual(other, call())


class TablesTest(unittest.TestCase, Raises):
    """The tables of bases; those of stores are tested likewise, with another way to make one."""

    @staticmethod
    def made(bits):
        return Base(bits=bits)

    def test_new(self):
        for bits in (1, 4, 10):
            base = self.made(bits)
            self.assertEqual((bits, 0, 0, []), (base.bits, base.version, base.oldest, base.tables()))
        for bits in (0, 11, EqualsAll()) + NOT_INTEGERS:
            self.must_raise(InvalidBits, {"value": bits}, self.made, bits)

    def test_names(self):
        base = self.made(3)
        for name in NAMES[:8]:
            self.assertIsNone(base.add_table(name, 1))
        self.assertEqual(list(NAMES[:8]), base.tables())
        other = self.made(3)
        for name in NAMES[8:]:
            other.add_table(name=name, columns=1)
        self.assertEqual(list(NAMES[8:]), other.tables())

    def test_wrong_names_first(self):
        base = self.made(3)
        for name in NOT_NAMES + (EqualsAll(),):
            self.must_raise(InvalidName, {"value": name}, base.add_table, name, 0)
        base.add_table("a", 1)
        self.must_raise(NameTaken, {"name": "a"}, base.add_table, "a", 0, None)
        self.assertEqual(["a"], base.tables())

    def test_columns(self):
        base = self.made(3)
        for columns in (1, 2, 3, 4):
            base.add_table("a" * columns, columns)
            self.assertEqual(columns, base.columns("a" * columns))
            self.assertEqual([tuple(range(columns))], base.orders("a" * columns))
        for columns in (0, 5, -1, 2 ** 70, EqualsAll()) + NOT_INTEGERS:
            self.must_raise(InvalidColumns, {"value": columns}, base.add_table, "b", columns, None)

    def test_orders(self):
        base = self.made(3)
        base.add_table("a", 2, (1, 0))
        base.add_table("b", 3, (2, 1, 0), (1, 0, 2))
        base.add_table("c", 4, (3, 2, 1, 0))
        self.assertEqual([(0, 1), (1, 0)], base.orders("a"))
        self.assertEqual([(0, 1, 2), (2, 1, 0), (1, 0, 2)], base.orders("b"))
        self.assertEqual([(0, 1, 2, 3), (3, 2, 1, 0)], base.orders(table="c"))

    def test_wrong_orders(self):
        base = self.made(3)
        wrong = ((0, 1, 2), (0, 0, 1), (0, 1), (2, 1, 0, 3), (3, 2, 1), (-1, 0, 1), (2, 1, False), (True, 0, 2),
                 (2, "1", 0), (2, None, 0), (2, (1,), 0), [2, 1, 0], EqualsAll()) + NOT_TUPLES
        for order in wrong:
            self.must_raise(InvalidOrder, {"position": 0}, base.add_table, "a", 3, order, None)
            self.must_raise(InvalidOrder, {"position": 1}, base.add_table, "a", 3, (2, 1, 0), order)
            self.must_raise(InvalidOrder, {"position": 1}, base.add_table, "a", 3, (2, 1, 0), order, order)
            self.must_raise(InvalidOrder, {"position": 2}, base.add_table, "a", 3, (2, 1, 0), (1, 0, 2), order)
        self.must_raise(InvalidOrder, {"position": 1}, base.add_table, "a", 3, (2, 1, 0), (2, 1, 0))
        self.must_raise(InvalidOrder, {"position": 2}, base.add_table, "a", 3, (2, 1, 0), (1, 0, 2), (1, 2, 0), 7)
        self.must_raise(InvalidOrder, {"position": 0}, base.add_table, "a", 1, (0,))
        self.must_raise(InvalidOrder, {"position": 1}, base.add_table, "a", 2, (1, 0), (0, 1))
        self.assertEqual([], base.tables())

    def test_ninth_table(self):
        base = self.made(3)
        for name in "abcdefgh":
            base.add_table(name, 1)
        self.must_raise(TooMany, {"kind": "tables", "limit": 8}, base.add_table, "i", 1)
        self.must_raise(InvalidOrder, {"position": 0}, base.add_table, "i", 1, (0,))
        self.must_raise(InvalidColumns, {"value": 5}, base.add_table, "i", 5)
        self.must_raise(NameTaken, {"name": "h"}, base.add_table, "h", 1)
        self.must_raise(InvalidName, {"value": "I"}, base.add_table, "I", 1)
        self.assertEqual(list("abcdefgh"), base.tables())

    def test_unknown_tables(self):
        base = self.made(3)
        base.add_table("a", 2)
        base.add_table("b", 1)
        for table in NO_TABLES:
            self.must_raise(UnknownTable, {"value": table}, base.columns, table)
            self.must_raise(UnknownTable, {"value": table}, base.orders, table)

    def test_returned_lists_are_new(self):
        base = small_base()
        for call in (base.tables, lambda: base.orders("a"), lambda: base.rows("a"), base.changed_keys,
                     lambda: base.keys_in("a", Box.whole(3, 2))):
            one, other = call(), call()
            self.assertIs(list, type(one))
            self.assertIsNot(one, other)
            one.append("x")
            self.assertEqual(other, call())

    def test_bases_are_independent(self):
        one, other = small_base(), Base(3)
        self.assertEqual([], other.tables())
        self.assertFalse(one == other)
        self.assertFalse(one == small_base())
        self.assertTrue(one == one)


class CommitTest(unittest.TestCase, Raises):

    def test_class_values(self):
        self.assertEqual((8, 10 ** 9), (Base.MAX_TABLES, Base.MAX_PAYLOAD))

    def test_returned_lists_are_new(self):
        base = small_base()
        for call in (lambda: base.rows("a"), base.changed_keys, lambda: base.keys_in("a", Box.whole(3, 2))):
            assert_new_lists(self, call)

    def test_versions(self):
        base = small_base()
        self.assertEqual(3, base.version)
        self.assertEqual(
            [[], [((1, 2), 10)], [((1, 2), 10), ((3, 4), -5)], [((1, 2), 11)]],
            [base.rows("a", version) for version in range(4)])
        self.assertEqual([[], [((7,), 0)], [], []], [base.rows("b", version) for version in range(4)])
        self.assertEqual([None, 10, 10, 11], [base.payload("a", (1, 2), version) for version in range(4)])
        self.assertEqual(base.rows("a", 3), base.rows(table="a"))
        self.assertEqual(11, base.payload(table="a", key=(1, 2), version=None))
        self.assertEqual(0, base.payload("b", (7,), version=1))

    def test_nothing_to_write(self):
        base = small_base()
        self.assertEqual(3, base.commit([]))
        self.assertEqual(3, base.commit(()))
        self.assertEqual(3, base.version)
        self.assertEqual(4, base.commit(writes=(("insert", "b", (0,), 1),)))

    def test_writes_that_cancel_each_other(self):
        base = small_base()
        writes = [("insert", "a", (5, 5), 1), ("update", "a", (5, 5), 2), ("delete", "a", (5, 5))]
        self.assertEqual(4, base.commit(writes))
        self.assertEqual([], base.changed_keys())
        self.assertEqual(base.rows("a", 3), base.rows("a", 4))
        self.assertEqual(5, base.commit([("update", "a", (1, 2), 7), ("update", "a", (1, 2), 11)]))
        self.assertEqual(6, base.commit([("delete", "a", (1, 2)), ("insert", "a", (1, 2), 11)]))
        self.assertEqual(([], []), (base.changed_keys(5), base.changed_keys(6)))
        self.assertIsNone(base.payload_break("a", (1, 2), 3))
        self.assertIsNone(base.presence_break("a", (1, 2), 3))

    def test_delete_and_insert_of_one_key(self):
        base = small_base()
        base.commit([("delete", "a", (1, 2)), ("insert", "a", (1, 2), 12)])
        self.assertEqual(12, base.payload("a", (1, 2)))
        self.assertEqual([("a", (1, 2))], base.changed_keys())
        self.assertEqual(4, base.payload_break("a", (1, 2), 3))
        self.assertIsNone(base.presence_break("a", (1, 2), 3))

    def test_no_list(self):
        base = small_base()
        for writes in NOT_LISTS:
            self.must_raise(InvalidWrite, {"position": -1}, base.commit, writes)

    def test_wrong_writes(self):
        base = small_base()
        good = ("insert", "b", (0,), 1)
        wrong = [
            (), ("insert",), ("insert", "a"), ("insert", "a", (0, 0)), ("insert", "a", (0, 0), 1, 1),
            ("update", "a", (1, 2)), ("delete", "a"), ("delete", "a", (1, 2), 1), ("Insert", "a", (0, 0), 1),
            ("replace", "a", (0, 0), 1), ("", "a", (0, 0), 1), (None, "a", (0, 0), 1), (EqualsAll(), "a", (0, 0), 1),
            (EqualsAll(), "a", (0, 0)), (["insert"], "a", (0, 0), 1), ["insert", "a", (0, 0), 1], "abcd", "abc",
        ]
        wrong += [("insert", table, (0, 0), 1) for table in NO_TABLES]
        wrong += [("delete", "a", key) for key in NO_KEYS]
        wrong += [("insert", "a", key, 1) for key in NO_KEYS]
        wrong += [("update", "a", (1, 2), payload) for payload in (10 ** 9 + 1, -10 ** 9 - 1, 10 ** 30) + NOT_INTEGERS]
        wrong += list(NOT_TUPLES) + [EqualsAll()]
        for write in wrong:
            self.must_raise(InvalidWrite, {"position": 0}, base.commit, [write])
            self.must_raise(InvalidWrite, {"position": 2}, base.commit, [good, good, write, None])
        self.assertEqual(3, base.version)
        self.assertEqual([], base.rows("b"))

    def test_payloads_at_the_edges(self):
        base = small_base()
        base.commit([("insert", "b", (0,), 10 ** 9), ("insert", "b", (1,), -10 ** 9), ("insert", "b", (2,), 0)])
        self.assertEqual([((0,), 10 ** 9), ((1,), -10 ** 9), ((2,), 0)], base.rows("b"))

    def test_writes_that_do_not_succeed(self):
        base = small_base()
        free = ("insert", "b", (0,), 1)
        for writes, kind, table, key in (
                ([("insert", "a", (1, 2), 1)], KeyTaken, "a", (1, 2)),
                ([free, ("insert", "b", (0,), 1)], KeyTaken, "b", (0,)),
                ([("update", "a", (0, 0), 1)], NoSuchRow, "a", (0, 0)),
                ([("delete", "b", (7,))], NoSuchRow, "b", (7,)),
                ([free, ("delete", "a", (1, 2)), ("delete", "a", (1, 2))], NoSuchRow, "a", (1, 2)),
                ([("delete", "a", (1, 2)), ("update", "a", (1, 2), 3)], NoSuchRow, "a", (1, 2)),
                ([("update", "a", (1, 2), 3), ("insert", "a", (1, 2), 3)], KeyTaken, "a", (1, 2)),
                ([("delete", "b", (3,)), ("insert", "a", (1, 2), 3)], NoSuchRow, "b", (3,)),
        ):
            before = [base.rows("a"), base.rows("b"), base.version, base.changed_keys()]
            self.must_raise(kind, {"table": table, "key": key}, base.commit, writes)
            self.assertEqual(before, [base.rows("a"), base.rows("b"), base.version, base.changed_keys()])

    def test_invalid_before_unsuccessful(self):
        base = small_base()
        self.must_raise(InvalidWrite, {"position": 1}, base.commit, [("delete", "a", (0, 0)), ("delete", "a", (9, 0))])

    def test_caller_changes_the_list_later(self):
        base = small_base()
        writes = [("insert", "b", (0,), 1)]
        base.commit(writes)
        writes[0] = ("insert", "b", (1,), 1)
        writes.clear()
        self.assertEqual([((0,), 1)], base.rows("b"))

    def test_tables_between_commits(self):
        base = small_base()
        base.add_table("c", 1)
        self.assertEqual(3, base.version)
        self.assertEqual([[]] * 4, [base.rows("c", version) for version in range(4)])
        self.assertIsNone(base.payload("c", (0,), 0))
        base.commit([("insert", "c", (0,), 1), ("insert", "a", (0, 0), 1)])
        self.assertEqual([None, None, 1], [base.payload("c", (0,), version) for version in (0, 3, 4)])
        self.assertEqual(4, base.presence_break("c", (0,), 0))
        self.assertEqual([("a", (0, 0)), ("c", (0,))], base.changed_keys())


class TellingTest(unittest.TestCase, Raises):

    def test_changed_keys(self):
        base = small_base()
        self.assertEqual([], base.changed_keys(0))
        self.assertEqual([("a", (1, 2)), ("b", (7,))], base.changed_keys(1))
        self.assertEqual([("a", (3, 4)), ("b", (7,))], base.changed_keys(version=2))
        self.assertEqual([("a", (1, 2)), ("a", (3, 4))], base.changed_keys())
        self.assertEqual([], Base(3).changed_keys())

    def test_changed_keys_by_the_sequence_of_the_tables(self):
        base = Base(3)
        base.add_table("b", 1)
        base.add_table("a", 1)
        base.commit([("insert", "a", (1,), 0), ("insert", "b", (7,), 0), ("insert", "b", (2,), 0)])
        self.assertEqual([("b", (2,)), ("b", (7,)), ("a", (1,))], base.changed_keys())

    def test_keys_in(self):
        base = small_base()
        whole = Box.whole(3, 2)
        self.assertEqual([(1, 2), (3, 4)], base.keys_in("a", whole, 2))
        self.assertEqual([(1, 2)], base.keys_in("a", whole))
        self.assertEqual([(3, 4)], base.keys_in(table="a", box=Box(3, ["", "1"]), version=2))
        self.assertEqual([], base.keys_in("a", Box(3, ["1", ""]), 2))

    def test_breaks_of_presence(self):
        base = small_base()
        self.assertEqual([1, None, None, None], [base.presence_break("a", (1, 2), at) for at in range(4)])
        self.assertEqual([2, 2, 3, None], [base.presence_break("a", (3, 4), at) for at in range(4)])
        self.assertIsNone(base.presence_break(table="a", key=(0, 0), version=0))
        self.assertIsNone(base.presence_break("a", (3, 4)))

    def test_breaks_of_payloads(self):
        base = small_base()
        self.assertEqual([3, 3, None], [base.payload_break("a", (1, 2), at) for at in (1, 2, 3)])
        self.assertEqual(3, base.payload_break(table="a", key=(3, 4), version=2))
        self.assertEqual(2, base.payload_break("b", (7,), 1))
        for key, version in (((1, 2), 0), ((3, 4), 1), ((3, 4), 3), ((3, 4), None), ((0, 0), None)):
            self.must_raise(NoSuchRow, {"table": "a", "key": key}, base.payload_break, "a", key, version)

    def test_breaks_of_clear_boxes(self):
        base = small_base()
        whole = Box.whole(3, 2)
        self.assertEqual(1, base.clear_break("a", whole, 0))
        self.assertEqual(2, base.clear_break("a", Box(3, ["", "1"]), 0))
        self.assertEqual(2, base.clear_break(table="a", box=Box(3, ["", "1"]), version=1))
        self.assertIsNone(base.clear_break("a", Box(3, ["", "1"]), 3))
        self.assertIsNone(base.clear_break("a", Box(3, ["", "1"])))
        self.assertIsNone(base.clear_break("a", Box(3, ["1", ""]), 0))
        self.must_raise(NotClear, {"key": (1, 2)}, base.clear_break, "a", whole, 2)
        self.must_raise(NotClear, {"key": (3, 4)}, base.clear_break, "a", Box(3, ["", "1"]), 2)
        self.must_raise(NotClear, {"key": (1, 2)}, base.clear_break, "a", whole)

    def test_unknown_tables_first(self):
        base = small_base()
        for table in NO_TABLES:
            for call in (base.payload, base.presence_break, base.payload_break, base.keys_in, base.clear_break):
                self.must_raise(UnknownTable, {"value": table}, call, table, None, -1)
            self.must_raise(UnknownTable, {"value": table}, base.rows, table, -1)

    def test_keys_second(self):
        base = small_base()
        for key in NO_KEYS:
            for call in (base.payload, base.presence_break, base.payload_break):
                self.must_raise(InvalidKey, {"value": key}, call, "a", key, -1)

    def test_unlike_boxes_second(self):
        base = small_base()
        for box in (Box.whole(4, 2), Box.whole(2, 2), Box.whole(3, 1), Box.whole(3, 3), Box(3)):
            for call in (base.keys_in, base.clear_break):
                self.must_raise(Unlike, {}, call, "a", box, -1)

    def test_versions_last(self):
        base = small_base()
        whole = Box.whole(3, 2)
        for version in NO_VERSIONS:
            for call in (base.payload, base.presence_break, base.payload_break):
                self.must_raise(UnknownVersion, {"value": version}, call, "a", (6, 6), version)
            for call in (base.keys_in, base.clear_break):
                self.must_raise(UnknownVersion, {"value": version}, call, "a", whole, version)
            self.must_raise(UnknownVersion, {"value": version}, base.rows, "a", version)
            self.must_raise(UnknownVersion, {"value": version}, base.changed_keys, version)
            self.must_raise(UnknownVersion, {"value": version}, base.snapshot, version)
            self.must_raise(UnknownVersion, {"value": version}, Snapshot, base, version)
            self.must_raise(UnknownVersion, {"value": version}, base.forget, version)
        self.must_raise(UnknownVersion, {"value": None}, base.forget, None)


class ForgettingTest(unittest.TestCase, Raises):

    def test_nothing_for_the_oldest_one(self):
        base = small_base()
        self.assertIsNone(base.forget(0))
        self.assertEqual(0, base.oldest)
        self.assertEqual([("a", (1, 2)), ("b", (7,))], base.changed_keys(1))
        self.assertEqual([], base.changed_keys(0))

    def test_what_is_still_told(self):
        base = small_base()
        full = small_base()
        self.assertIsNone(base.forget(version=2))
        self.assertEqual((2, 3), (base.oldest, base.version))
        for version in (2, 3):
            for table in ("a", "b"):
                self.assertEqual(full.rows(table, version), base.rows(table, version))
            for key in ((1, 2), (3, 4), (0, 0)):
                self.assertEqual(full.payload("a", key, version), base.payload("a", key, version))
                self.assertEqual(full.presence_break("a", key, version), base.presence_break("a", key, version))
        self.assertEqual(3, base.payload_break("a", (1, 2), 2))
        self.assertEqual(full.changed_keys(3), base.changed_keys(3))

    def test_what_is_too_old(self):
        base = small_base()
        base.forget(2)
        whole = Box.whole(3, 2)
        for version in (0, 1):
            for call in (base.payload, base.presence_break, base.payload_break):
                self.must_raise(TooOld, {"least": 2}, call, "a", (0, 0), version)
                self.must_raise(InvalidKey, {"value": (0,)}, call, "a", (0,), version)
            for call in (base.keys_in, base.clear_break):
                self.must_raise(TooOld, {"least": 2}, call, "a", whole, version)
                self.must_raise(Unlike, {}, call, "a", Box(3), version)
            self.must_raise(TooOld, {"least": 2}, base.rows, "a", version)
            self.must_raise(TooOld, {"least": 2}, base.changed_keys, version)
            self.must_raise(TooOld, {"least": 2}, base.snapshot, version)
            self.must_raise(TooOld, {"least": 2}, Snapshot, base, version)
            self.must_raise(TooOld, {"least": 2}, base.forget, version)
        self.must_raise(TooOld, {"least": 2}, base.changed_keys, 2)
        self.must_raise(UnknownVersion, {"value": 4}, base.forget, 4)

    def test_twice_and_up_to_the_newest(self):
        base = small_base()
        base.forget(1)
        self.assertEqual([("a", (3, 4)), ("b", (7,))], base.changed_keys(2))
        self.must_raise(TooOld, {"least": 1}, base.changed_keys, 1)
        self.must_raise(TooOld, {"least": 1}, base.changed_keys, 0)
        base.forget(1)
        base.forget(3)
        self.assertEqual(3, base.oldest)
        self.must_raise(TooOld, {"least": 3}, base.changed_keys)
        self.must_raise(TooOld, {"least": 3}, base.payload, "a", (0, 0), 2)
        self.assertEqual([((1, 2), 11)], base.rows("a"))
        base.commit([("insert", "b", (7,), 3)])
        self.assertEqual([("b", (7,))], base.changed_keys())
        self.assertEqual(4, base.presence_break("b", (7,), 3))
        self.assertEqual(4, base.clear_break("b", Box.whole(3, 1), 3))


if __name__ == "__main__":
    unittest.main()
