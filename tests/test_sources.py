"""Points [13] and [15]: gaps and snapshots; and a base compared with one that is written down from the document."""

import unittest

from coverstore.bases import Base
from coverstore.boxes import Box
from coverstore.errors import InvalidKey, InvalidPlace, KeyTaken, NoSuchRow, NotClear, TooOld, UnknownTable, Unlike
from coverstore.sources import Snapshot, Source

from helpers import NOT_INTEGERS, NOT_NAMES, NOT_TUPLES, EqualsAll, Numbers, Raises, all_boxes, all_points
from model import Model

ORDERS = {
    "one": [(0,)],
    "two": [(0, 1), (1, 0)],
    "three": [(0, 1, 2), (2, 0, 1), (1, 2, 0)],
    "four": [(0, 1, 2, 3), (3, 1, 0, 2), (2, 3, 1, 0)],
}


def filled(table, bits, keys):
    """A snapshot of a base with one table that has these keys."""
    base = Base(bits)
    base.add_table(table, len(ORDERS[table][0]), *ORDERS[table][1:])
    base.commit([("insert", table, key, 1) for key in keys])
    return base.snapshot()


class GapTest(unittest.TestCase, Raises):

    def test_empty_table(self):
        for table, orders in ORDERS.items():
            source = filled(table, 3, [])
            key = (5,) * len(orders[0])
            self.assertEqual([Box.whole(3, len(key))] * len(orders), source.gaps(table, key))
            self.assertEqual(Box.whole(3, len(key)), source.gap(table, key))

    def test_next_to_present_keys(self):
        source = filled("one", 3, [(3,), (6,)])
        found = {value: str(source.gap("one", (value,))) for value in (0, 1, 2, 4, 5, 7)}
        self.assertEqual({0: "00", 1: "00", 2: "010", 4: "10", 5: "10", 7: "111"}, found)

    def test_several_columns(self):
        source = filled("two", 3, [(1, 2), (1, 3), (6, 0)])
        self.assertEqual([Box(3, ["001", "1"]), Box(3, ["", "1"])], source.gaps("two", (1, 7)))
        self.assertEqual([Box(3, ["001", "00"]), Box(3, ["0", "000"])], source.gaps("two", (1, 0)))
        self.assertEqual([Box(3, ["01", ""]), Box(3, ["01", "010"])], source.gaps("two", (2, 2)))
        self.assertEqual([Box(3, ["10", ""]), Box(3, ["", "001"])], source.gaps("two", (4, 1)))
        self.assertEqual(Box(3, ["", "1"]), source.gap("two", (1, 7), 1))
        self.assertEqual(Box(3, ["001", "1"]), source.gap(table="two", key=(1, 7), order=0))

    def test_contains_the_key_and_is_clear(self):
        numbers = Numbers(4)
        for table, orders in ORDERS.items():
            width = len(orders[0])
            keys = all_points(2, width)
            present = [key for key in keys if numbers.below(3) == 0]
            source = filled(table, 2, present)
            for key in keys:
                if key in present:
                    self.must_raise(KeyTaken, {"table": table, "key": key}, source.gap, table, key)
                    self.must_raise(KeyTaken, {"table": table, "key": key}, source.gaps, table, key)
                    continue
                gaps = source.gaps(table, key)
                self.assertEqual(len(orders), len(gaps))
                for order, gap in enumerate(gaps):
                    self.assertEqual(gap, source.gap(table, key, order))
                    self.assertTrue(gap.holds(key))
                    self.assertTrue(source.is_clear(table, gap))

    def test_errors_in_their_order(self):
        source = filled("two", 3, [(1, 2)])
        for table in ("one", EqualsAll()) + NOT_NAMES:
            self.must_raise(UnknownTable, {"value": table}, source.gap, table, None, 9)
            self.must_raise(UnknownTable, {"value": table}, source.gaps, table, None)
        for key in ((0,), (0, 8), (0, True), (1, 2, 3), EqualsAll()) + NOT_TUPLES:
            self.must_raise(InvalidKey, {"value": key}, source.gap, "two", key, 9)
            self.must_raise(InvalidKey, {"value": key}, source.gaps, "two", key)
        for order in (-1, 2, 3, EqualsAll()) + NOT_INTEGERS:
            self.must_raise(InvalidPlace, {"value": order}, source.gap, "two", (1, 2), order)
        self.must_raise(KeyTaken, {"table": "two", "key": (1, 2)}, source.gap, "two", (1, 2), 1)


class SnapshotTest(unittest.TestCase, Raises):

    def three_versions(self):
        base = Base(3)
        base.add_table("a", 1)
        base.commit([("insert", "a", (1,), 10)])
        base.commit([("insert", "a", (5,), 50), ("update", "a", (1,), 11)])
        return base

    def test_is_a_source(self):
        base = self.three_versions()
        self.assertTrue(issubclass(Snapshot, Source))
        self.assertIs(Snapshot, type(base.snapshot()))
        self.assertIs(Snapshot, type(base.snapshot(version=1)))
        self.assertEqual(2, base.snapshot().version)
        self.assertEqual(2, Snapshot(base).version)
        self.assertEqual(1, Snapshot(version=1, base=base).version)
        self.assertEqual(0, base.snapshot(0).version)
        self.assertFalse(base.snapshot() == base.snapshot())

    def test_shows_one_version(self):
        base = self.three_versions()
        sources = [base.snapshot(version) for version in range(3)]
        whole = Box.whole(3, 1)
        for _ in range(2):
            self.assertEqual([None, 10, 11], [source.payload("a", (1,)) for source in sources])
            self.assertEqual([[], [(1,)], [(1,), (5,)]], [source.keys_in("a", whole) for source in sources])
            self.assertEqual([True, False, False], [source.is_clear("a", whole) for source in sources])
            self.assertEqual(
                [Box(3, [""]), Box(3, ["1"]), Box(3, ["11"])], [source.gap("a", (7,)) for source in sources])
            base.commit([("delete", "a", (1,))] if base.payload("a", (1,)) else [("insert", "a", (0,), 1)])
        self.assertEqual(4, base.version)
        self.assertEqual([3, 3, 3], [source.bits for source in sources])

    def test_names_of_arguments(self):
        source = self.three_versions().snapshot()
        self.assertEqual(11, source.payload(table="a", key=(1,)))
        self.assertEqual([(5,)], source.keys_in(table="a", box=Box(3, ["1"])))
        self.assertIs(True, source.is_clear(table="a", box=Box(3, ["11"])))
        self.assertEqual([(0,)], source.orders(table="a"))
        self.assertEqual(1, source.columns(table="a"))
        self.assertEqual([Box(3, ["11"])], source.gaps(table="a", key=(6,)))

    def test_tables_that_are_added_later(self):
        base = self.three_versions()
        source = base.snapshot()
        base.add_table("b", 2, (1, 0))
        self.assertEqual(["a", "b"], source.tables())
        self.assertEqual(2, source.columns("b"))
        self.assertEqual([(0, 1), (1, 0)], source.orders("b"))
        base.commit([("insert", "b", (0, 0), 1)])
        self.assertIsNone(source.payload("b", (0, 0)))
        self.assertIs(True, source.is_clear("b", Box.whole(3, 2)))
        self.assertEqual([Box.whole(3, 2)] * 2, source.gaps("b", (0, 0)))
        self.assertEqual(1, base.snapshot().payload("b", (0, 0)))

    def test_returned_lists_are_new(self):
        source = self.three_versions().snapshot()
        for call in (source.tables, lambda: source.orders("a"), lambda: source.keys_in("a", Box.whole(3, 1)),
                     lambda: source.gaps("a", (0,))):
            one, other = call(), call()
            self.assertIs(list, type(one))
            self.assertIsNot(one, other)
            one.clear()
            self.assertEqual(other, call())

    def test_errors(self):
        source = self.three_versions().snapshot()
        for table in ("b", EqualsAll()) + NOT_NAMES:
            self.must_raise(UnknownTable, {"value": table}, source.columns, table)
            self.must_raise(UnknownTable, {"value": table}, source.orders, table)
            self.must_raise(UnknownTable, {"value": table}, source.payload, table, None)
            self.must_raise(UnknownTable, {"value": table}, source.keys_in, table, Box(1))
            self.must_raise(UnknownTable, {"value": table}, source.is_clear, table, Box(1))
        for key in ((8,), (0, 0), (True,), ()) + NOT_TUPLES:
            self.must_raise(InvalidKey, {"value": key}, source.payload, "a", key)
        for box in (Box.whole(4, 1), Box.whole(3, 2), Box(3)):
            self.must_raise(Unlike, {}, source.keys_in, "a", box)
            self.must_raise(Unlike, {}, source.is_clear, "a", box)

    def test_forgotten(self):
        base = self.three_versions()
        source, kept = base.snapshot(1), base.snapshot(2)
        self.assertEqual(10, source.payload("a", (1,)))
        base.forget(2)
        whole, told = Box.whole(3, 1), {"least": 2}
        for call in (source.payload, source.gap, source.gaps):
            for key in ((1,), (0,)):
                self.must_raise(TooOld, told, call, "a", key)
            self.must_raise(InvalidKey, {"value": (9,)}, call, "a", (9,))
            self.must_raise(UnknownTable, {"value": "b"}, call, "b", (9,))
        for call in (source.keys_in, source.is_clear):
            self.must_raise(TooOld, told, call, "a", whole)
            self.must_raise(Unlike, {}, call, "a", Box(3))
            self.must_raise(UnknownTable, {"value": "b"}, call, "b", whole)
        self.must_raise(InvalidPlace, {"value": 1}, source.gap, "a", (1,), 1)
        self.assertEqual((1, 3, ["a"], 1, [(0,)]),
                         (source.version, source.bits, source.tables(), source.columns("a"), source.orders("a")))
        self.assertEqual(11, kept.payload("a", (1,)))
        base.commit([("delete", "a", (1,))])
        base.forget(3)
        self.must_raise(TooOld, {"least": 3}, source.payload, "a", (1,))
        self.must_raise(TooOld, {"least": 3}, kept.payload, "a", (1,))

    def test_forgotten_before_it_was_asked(self):
        base = self.three_versions()
        source = base.snapshot(0)
        base.forget(1)
        base.add_table("b", 1)
        self.must_raise(TooOld, {"least": 1}, source.payload, "b", (0,))
        self.assertEqual(1, source.columns("b"))


class ModelTest(unittest.TestCase, Raises):
    """Many commits; all that is told at each version is compared."""

    def test_small_spaces(self):
        for seed, table, bits in ((1, "one", 3), (2, "two", 2), (3, "three", 1), (4, "four", 1), (5, "two", 1)):
            self.compare_all(Numbers(seed), table, bits)

    def test_a_large_space(self):
        for table, orders in ORDERS.items():
            width = len(orders[0])
            numbers = Numbers(width)
            base, model = Base(10), Model(10)
            for one in (base, model):
                one.add_table(table, width, *orders[1:])
            # Few different values in most columns, so that many keys begin alike.
            values = [numbers.below(1024) for _ in range(12)] + [0, 1023, 512, 511]
            keys = sorted({tuple(numbers.one_of(values) for _ in range(width)) for _ in range(300)})
            writes = [("insert", table, key, number) for number, key in enumerate(keys)]
            self.assertIsNone(model.commit(writes))
            base.commit(writes)
            source = base.snapshot()
            for _ in range(60):
                key = tuple(numbers.one_of(values + [numbers.below(1024)]) for _ in range(width))
                if key not in keys:
                    expected = [model.gap(table, key, order, 1) for order in range(len(orders))]
                    self.assertEqual(expected, source.gaps(table, key))
                box = Box(10, [f"{value:010b}"[:numbers.one_of((0, 0, 1, 3, 10))] for value in numbers.one_of(keys)])
                self.assertEqual(model.keys_in(table, box, 1), source.keys_in(table, box))
                self.assertEqual(model.keys_in(table, box, 1), base.keys_in(table, box))

    def compare_all(self, numbers, table, bits):
        base, model = Base(bits), Model(bits)
        for one in (base, model):
            one.add_table(table, len(ORDERS[table][0]), *ORDERS[table][1:])
        added = False
        for step in range(16):
            if step == 8:
                added = True
                for one in (base, model):
                    one.add_table("b", 1)
            self.commit_both(numbers, base, model, [table] + ["b"] * added)
        for version in range(base.version + 1):
            self.compare_version(base, model, table, version)
        self.assertGreater(base.version, 5)
        middle = base.version // 2
        old = base.snapshot(middle - 1)
        base.forget(middle)
        for version in range(middle, base.version + 1):
            self.compare_version(base, model, table, version)
        self.must_raise(TooOld, {"least": middle}, old.payload, table, model.all_keys(table)[0])

    def commit_both(self, numbers, base, model, tables):
        writes, present = [], dict(model.versions[-1])
        for _ in range(numbers.below(4)):
            table = numbers.one_of(tables)
            key = numbers.one_of(model.all_keys(table))
            # Most writes can succeed; now and then one is of a kind that the key does not allow.
            fails = numbers.below(15) == 0
            kind = numbers.one_of(("update", "delete")) if ((table, key) in present) != fails else "insert"
            writes.append((kind, table, key) + ((numbers.below(3),) if kind != "delete" else ()))
            if kind == "delete":
                present.pop((table, key), None)
            else:
                present[table, key] = True
        failed = model.commit(writes)
        if failed is None:
            self.assertEqual(len(model.versions) - 1, base.commit(writes))
        else:
            kind = KeyTaken if failed[0] == "taken" else NoSuchRow
            self.must_raise(kind, {"table": failed[1], "key": failed[2]}, base.commit, writes)
        self.assertEqual(len(model.versions) - 1, base.version)

    def compare_version(self, base, model, table, version):
        self.assertEqual(model.rows(table, version), base.rows(table, version))
        if version > base.oldest:
            self.assertEqual(model.changed_keys(version), base.changed_keys(version))
        source = base.snapshot(version)
        for key in model.all_keys(table):
            self.compare_key(base, model, source, table, key, version)
        for box in all_boxes(base.bits, len(model.forms[table][0])):
            self.compare_box(base, model, source, table, box, version)

    def compare_key(self, base, model, source, table, key, version):
        payload = model.payload(table, key, version)
        self.assertEqual(payload, base.payload(table, key, version))
        self.assertEqual(payload, source.payload(table, key))
        self.assertEqual(model.presence_break(table, key, version), base.presence_break(table, key, version))
        if payload is None:
            self.must_raise(NoSuchRow, {"table": table, "key": key}, base.payload_break, table, key, version)
            expected = [model.gap(table, key, order, version) for order in range(len(model.forms[table]))]
            self.assertEqual(expected, source.gaps(table, key))
        else:
            self.assertEqual(model.payload_break(table, key, version), base.payload_break(table, key, version))

    def compare_box(self, base, model, source, table, box, version):
        keys = model.keys_in(table, box, version)
        self.assertEqual(keys, base.keys_in(table, box, version))
        self.assertEqual(keys, source.keys_in(table, box))
        self.assertIs(keys == [], source.is_clear(table, box))
        if keys:
            self.must_raise(NotClear, {"key": keys[0]}, base.clear_break, table, box, version)
        else:
            self.assertEqual(model.clear_break(table, box, version), base.clear_break(table, box, version))


if __name__ == "__main__":
    unittest.main()
