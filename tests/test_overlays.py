"""Point [37]: overlays show what a base shows in which the same writes were committed."""

import unittest

from coverstore.bases import Base
from coverstore.boxes import Box
from coverstore.breaks import broken_lines
from coverstore.checks import accepts, wrong_line
from coverstore.engine import best_order, paper_of
from coverstore.errors import InvalidKey, InvalidPlace, InvalidWrite, KeyTaken, NoSuchRow, TooOld, UnknownTable, Unlike
from coverstore.evaluating import first_failing, literal_holds, plain_answer
from coverstore.groups import Grouping
from coverstore.overlays import Overlay
from coverstore.queries import Query
from coverstore.repair import repaired
from coverstore.sources import Snapshot, Source

from helpers import NOT_INTEGERS, NOT_LISTS, NOT_NAMES, NOT_TUPLES, EqualsAll, Numbers, Raises, all_boxes, all_points
from model import filled_pair, some_writes
from slow_store import at_rows, base_of, performed


def small_base():
    base = Base(2)
    base.add_table("r", 2, (1, 0))
    base.add_table("s", 1)
    base.commit([("insert", "r", (1, 2), 10), ("insert", "s", (3,), 5)])
    base.commit([("delete", "s", (3,)), ("insert", "r", (0, 0), 20)])
    return base


def rows_after(rows, writes):
    """The rows after writes that succeed."""
    for write in writes:
        rows, outcome = performed(rows, write)
        assert outcome == "done"
    return rows


class ShownTest(unittest.TestCase):
    """All that an overlay shows is compared with a base in which the same writes were committed."""

    def assert_shows(self, model, rows, overlay):
        expected = base_of(model, rows).snapshot()
        self.assertEqual(expected.tables(), overlay.tables())
        self.assertEqual(model.bits, overlay.bits)
        for table, orders in model.forms.items():
            self.assertEqual(len(orders[0]), overlay.columns(table))
            self.assertEqual(orders, overlay.orders(table))
            for key in model.all_keys(table):
                payload = rows.get((table, key))
                self.assertEqual(payload, overlay.payload(table, key))
                if payload is None:
                    self.assertEqual(expected.gaps(table, key), overlay.gaps(table, key))
                    for order in range(len(orders)):
                        self.assertEqual(expected.gap(table, key, order), overlay.gap(table, key, order))
                else:
                    self.assertRaises(KeyTaken, overlay.gap, table, key)
            boxes = all_boxes(model.bits, len(orders[0]))
            for box in boxes[::len(boxes) // 40 + 1]:
                self.assertEqual(expected.keys_in(table, box), overlay.keys_in(table, box))
                self.assertIs(expected.is_clear(table, box), overlay.is_clear(table, box))

    def test_over_each_version(self):
        numbers = Numbers(37)
        base, model = filled_pair(5, 2, 4, 8)
        snapshots = [base.snapshot(version) for version in range(5)]
        for many in (0, 1, 3, 30):
            for version, rows in enumerate(model.versions):
                writes = some_writes(numbers, at_rows(model, rows), many)
                self.assert_shows(model, rows_after(rows, writes), Overlay(snapshots[version], writes))

    def test_over_other_overlays(self):
        numbers = Numbers(38)
        base, model = filled_pair(6, 2, 2, 8)
        for version, rows in enumerate(model.versions):
            overlay = base.snapshot(version)
            for many in (2, 0, 5, 1, 12):
                writes = some_writes(numbers, at_rows(model, rows), many)
                below, before = overlay, rows
                rows = rows_after(rows, writes)
                overlay = Overlay(below, writes)
                self.assert_shows(model, rows, overlay)
            self.assert_shows(model, before, below)

    def test_writes_one_after_another(self):
        source = small_base().snapshot()
        writes = [("insert", "s", (1,), 1), ("update", "s", (1,), 2), ("delete", "s", (1,)), ("insert", "s", (1,), 3),
                  ("delete", "r", (1, 2)), ("insert", "r", (1, 2), 11), ("update", "r", (0, 0), -20)]
        expected = [None, 1, 2, None, 3, 3, 3, 3]
        self.assertEqual(expected, [Overlay(source, writes[:many]).payload("s", (1,)) for many in range(8)])
        overlay = Overlay(source, writes)
        self.assertEqual((11, -20), (overlay.payload("r", (1, 2)), overlay.payload("r", (0, 0))))
        self.assertEqual((10, 20, None),
                         (source.payload("r", (1, 2)), source.payload("r", (0, 0)), source.payload("s", (1,))))

    def test_the_largest_payloads(self):
        overlay = Overlay(small_base().snapshot(), [("insert", "s", (0,), 10 ** 9), ("insert", "s", (1,), -10 ** 9)])
        self.assertEqual((10 ** 9, -10 ** 9), (overlay.payload("s", (0,)), overlay.payload("s", (1,))))

    def test_later_commits_and_tables(self):
        base = small_base()
        overlay = Overlay(base.snapshot(), [("insert", "s", (0,), 1)])
        base.commit([("insert", "s", (2,), 1), ("delete", "r", (0, 0))])
        self.assertEqual([(0,)], overlay.keys_in("s", Box.whole(2, 1)))
        base.add_table("t", 2, (1, 0))
        base.commit([("insert", "t", (1, 1), 1)])
        self.assertEqual(["r", "s", "t"], overlay.tables())
        self.assertEqual((2, [(0, 1), (1, 0)]), (overlay.columns("t"), overlay.orders("t")))
        self.assertEqual((None, []), (overlay.payload("t", (1, 1)), overlay.keys_in("t", Box.whole(2, 2))))
        self.assertEqual([Box.whole(2, 2)] * 2, overlay.gaps("t", (1, 1)))
        over = Overlay(base.snapshot(0), [("insert", "t", (3, 3), 7)])
        self.assertEqual([(3, 3)], over.keys_in("t", Box.whole(2, 2)))

    def test_nothing_is_committed(self):
        base = small_base()
        Overlay(base.snapshot(), [("insert", "s", (0,), 1)])
        self.assertEqual((2, []), (base.version, base.rows("s")))


class KindTest(unittest.TestCase):

    def test_is_a_source_and_no_snapshot(self):
        overlay = Overlay(source=small_base().snapshot(), writes=[])
        self.assertTrue(issubclass(Overlay, Source) and not issubclass(Overlay, Snapshot))
        self.assertTrue(isinstance(overlay, Source) and not isinstance(overlay, Snapshot))
        self.assertFalse(hasattr(overlay, "version"))
        self.assertFalse(overlay == Overlay(small_base().snapshot(), []))

    def test_names_of_arguments(self):
        overlay = Overlay(small_base().snapshot(), [("insert", "s", (0,), 1)])
        self.assertEqual(1, overlay.payload(table="s", key=(0,)))
        self.assertEqual([(0,)], overlay.keys_in(table="s", box=Box(2, [""])))
        self.assertIs(False, overlay.is_clear(table="s", box=Box(2, ["00"])))
        self.assertEqual(Box(2, ["1"]), overlay.gap(table="s", key=(2,), order=0))
        self.assertEqual([Box(2, ["01"])], overlay.gaps(table="s", key=(1,)))
        self.assertEqual((1, [(0,)]), (overlay.columns(table="s"), overlay.orders(table="s")))

    def test_writes_are_copied(self):
        source = small_base().snapshot()
        given = [("insert", "s", (0,), 1)]
        overlay = Overlay(source, given)
        given.append(("insert", "s", (1,), 1))
        given[0] = ("insert", "s", (2,), 1)
        self.assertEqual([("insert", "s", (0,), 1)], overlay.writes())
        self.assertEqual([(0,)], overlay.keys_in("s", Box.whole(2, 1)))
        told = overlay.writes()
        told.clear()
        self.assertEqual([("insert", "s", (0,), 1)], overlay.writes())
        self.assertEqual([(0,)], overlay.keys_in("s", Box.whole(2, 1)))
        self.assertEqual((list, [("delete", "r", (0, 0))]),
                         (type(Overlay(source, (("delete", "r", (0, 0)),)).writes()),
                          Overlay(source, (("delete", "r", (0, 0)),)).writes()))
        self.assertEqual([], Overlay(source, []).writes())

    def test_returned_lists_are_new(self):
        overlay = Overlay(small_base().snapshot(), [("insert", "s", (0,), 1)])
        for call in (overlay.tables, lambda: overlay.orders("r"), lambda: overlay.keys_in("s", Box.whole(2, 1)),
                     lambda: overlay.gaps("s", (1,)), overlay.writes):
            one, other = call(), call()
            self.assertEqual(one, other)
            one.clear()
            self.assertEqual(other, call())


class ErrorsTest(unittest.TestCase, Raises):

    def test_no_list(self):
        source = small_base().snapshot()
        for writes in NOT_LISTS + (EqualsAll(),):
            self.must_raise(InvalidWrite, {"position": -1}, Overlay, source, writes)

    def test_no_write(self):
        source = small_base().snapshot()
        good = ("insert", "s", (0,), 1)
        for wrong in (("insert", "s", (0,)), ("insert", "s", (0,), 1, 1), ("delete", "s", (0,), 1), ("drop", "s", (0,)),
                      ("insert", "u", (0,), 1), ("insert", "s", (4,), 1), ("insert", "s", (0, 0), 1),
                      ("insert", "s", [0], 1), ("insert", "s", (True,), 1), ("insert", "s", (0,), True),
                      ("insert", "s", (0,), 10 ** 9 + 1), ("update", "s", (0,), -10 ** 9 - 1),
                      ("update", "s", (0,), None), ["insert", "s", (0,), 1], (EqualsAll(), "s", (0,), 1),
                      ("delete", EqualsAll(), (0,)), ("delete", ["s"], (0,)), "insert", None, (), EqualsAll()):
            self.must_raise(InvalidWrite, {"position": 0}, Overlay, source, [wrong, None])
            # Whether it is one comes before whether the others succeed.
            failing = ("delete", "s", (2,))
            self.must_raise(InvalidWrite, {"position": 2}, Overlay, source, [good, failing, wrong, wrong])

    def test_writes_that_do_not_succeed(self):
        source = small_base().snapshot()
        for writes, kind, table, key in (
                ([("insert", "r", (1, 2), 1)], KeyTaken, "r", (1, 2)),
                ([("update", "s", (0,), 1)], NoSuchRow, "s", (0,)),
                ([("delete", "s", (3,))], NoSuchRow, "s", (3,)),
                ([("insert", "s", (0,), 1), ("insert", "s", (0,), 1), ("delete", "s", (1,))], KeyTaken, "s", (0,)),
                ([("delete", "r", (0, 0)), ("update", "r", (0, 0), 1)], NoSuchRow, "r", (0, 0)),
                ([("delete", "s", (1,)), ("insert", "r", (1, 2), 1)], NoSuchRow, "s", (1,))):
            self.must_raise(kind, {"table": table, "key": key}, Overlay, source, writes)
        over = Overlay(source, [("delete", "r", (1, 2)), ("insert", "s", (0,), 1)])
        self.must_raise(NoSuchRow, {"table": "r", "key": (1, 2)}, Overlay, over, [("update", "r", (1, 2), 1)])
        self.must_raise(KeyTaken, {"table": "s", "key": (0,)}, Overlay, over, [("insert", "s", (0,), 1)])

    def test_of_the_methods_in_their_sequence(self):
        source = Overlay(small_base().snapshot(), [("insert", "s", (0,), 1)])
        for table in ("u", EqualsAll()) + NOT_NAMES:
            for call, *more in ((source.columns,), (source.orders,), (source.payload, None), (source.keys_in, Box(1)),
                                (source.is_clear, Box(1)), (source.gap, None, 9), (source.gaps, None)):
                self.must_raise(UnknownTable, {"value": table}, call, table, *more)
        for key in ((4,), (), (0, 0), (True,), (-1,), (None,), EqualsAll()) + NOT_TUPLES:
            self.must_raise(InvalidKey, {"value": key}, source.payload, "s", key)
            self.must_raise(InvalidKey, {"value": key}, source.gap, "s", key, 9)
            self.must_raise(InvalidKey, {"value": key}, source.gaps, "s", key)
        for box in (Box.whole(3, 1), Box.whole(2, 2), Box(2)):
            self.must_raise(Unlike, {}, source.keys_in, "s", box)
            self.must_raise(Unlike, {}, source.is_clear, "s", box)
        for order in (-1, 1, 2, EqualsAll()) + NOT_INTEGERS:
            for key in ((0,), (1,)):
                self.must_raise(InvalidPlace, {"value": order}, source.gap, "s", key, order)
        self.must_raise(KeyTaken, {"table": "s", "key": (0,)}, source.gap, "s", (0,), 0)
        self.must_raise(KeyTaken, {"table": "s", "key": (0,)}, source.gaps, "s", (0,))


class ForgottenTest(unittest.TestCase, Raises):

    def forgotten(self):
        """An overlay over version 1, which was forgotten after some of it was looked at."""
        base = small_base()
        overlay = Overlay(base.snapshot(1), [("delete", "s", (3,)), ("insert", "s", (0,), 1)])
        self.assertEqual([(0,)], overlay.keys_in("s", Box.whole(2, 1)))
        self.assertEqual([Box(2, ["1"])], overlay.gaps("s", (3,)))
        base.forget(2)
        return base, overlay

    def test_rows_that_have_to_be_looked_up(self):
        _, overlay = self.forgotten()
        told = {"least": 2}
        self.must_raise(TooOld, told, overlay.payload, "s", (1,))
        self.must_raise(TooOld, told, overlay.payload, "r", (1, 2))
        for call in (overlay.keys_in, overlay.is_clear):
            self.must_raise(TooOld, told, call, "s", Box.whole(2, 1))
            self.must_raise(TooOld, told, call, "r", Box.whole(2, 2))
        for call in (overlay.gap, overlay.gaps):
            for key in ((1,), (3,)):
                self.must_raise(TooOld, told, call, "s", key)

    def test_rows_that_were_written(self):
        _, overlay = self.forgotten()
        self.assertEqual((1, None), (overlay.payload("s", (0,)), overlay.payload("s", (3,))))
        self.must_raise(KeyTaken, {"table": "s", "key": (0,)}, overlay.gap, "s", (0,))

    def test_comes_last(self):
        _, overlay = self.forgotten()
        self.must_raise(UnknownTable, {"value": "u"}, overlay.payload, "u", (1,))
        self.must_raise(InvalidKey, {"value": (4,)}, overlay.gaps, "s", (4,))
        self.must_raise(Unlike, {}, overlay.keys_in, "s", Box(2))
        self.must_raise(InvalidPlace, {"value": 1}, overlay.gap, "s", (1,), 1)
        self.assertEqual((2, ["r", "s"], 1, [(0,)]),
                         (overlay.bits, overlay.tables(), overlay.columns("s"), overlay.orders("s")))
        self.assertEqual(2, len(overlay.writes()))

    def test_new_overlays(self):
        base, overlay = self.forgotten()
        for source in (overlay, base.snapshot()):
            self.assertEqual([], Overlay(source, []).writes())
        over = Overlay(overlay, [])
        self.must_raise(TooOld, {"least": 2}, over.payload, "r", (0, 0))
        self.must_raise(TooOld, {"least": 2}, Overlay, overlay, [("insert", "r", (0, 0), 0)])
        self.must_raise(InvalidWrite, {"position": 1}, Overlay, overlay, [("insert", "r", (0, 0), 0), None])

    def test_queries(self):
        _, overlay = self.forgotten()
        self.must_raise(TooOld, {"least": 2}, paper_of, overlay, Query.read("s(x)"))
        self.assertEqual([], paper_of(overlay, Query.read("x < x")).points())
        self.must_raise(UnknownTable, {"value": "u"}, paper_of, overlay, Query.read("u(x)"))
        self.assertIs(True, literal_holds(overlay, Query.read("s(x), x < 2"), 1, (1,)))


class UseTest(unittest.TestCase):
    """Papers, answers, groups and repairs at overlays."""

    TEXTS = ("r(x,y), not s(y)", "r(x,y), r(y,x)", "not r(x,x), s(x)", "t(x,y,x), x < y", "not s(1), r(2,3)")

    def test_compared(self):
        numbers = Numbers(39)
        base, model = filled_pair(7, 2, 3, 10)
        for version in (0, 2, 3):
            rows, snapshot = model.versions[version], base.snapshot(version)
            for text in self.TEXTS:
                query = Query.read(text)
                writes = some_writes(numbers, at_rows(model, rows), 1 + numbers.below(8))
                overlay = Overlay(snapshot, writes)
                plain = base_of(model, rows, writes).snapshot()
                paper = paper_of(snapshot, query)
                self.assertEqual(paper_of(plain, query), paper_of(overlay, query))
                self.assertEqual(plain_answer(plain, query), plain_answer(overlay, query))
                self.assertEqual(best_order(plain, query), best_order(overlay, query))
                self.assertEqual(broken_lines(plain, paper), broken_lines(overlay, paper))
                self.assertEqual(wrong_line(plain, paper), wrong_line(overlay, paper))
                one, other = repaired(plain, paper), repaired(overlay, paper)
                self.assertEqual((one.paper, one.lost(), one.found(), one.probed()),
                                 (other.paper, other.lost(), other.found(), other.probed()))
                answer = other.paper.points()
                self.assertIs(True, accepts(overlay, query, answer, other.paper))
                for point in all_points(2, len(query.variables)):
                    self.assertEqual(first_failing(plain, query, point), first_failing(overlay, query, point))
                if query.literals()[0][0] == "row":
                    grouping = Grouping(query, (), "sum", 0)
                    self.assertEqual(grouping.results(plain, answer), grouping.results(overlay, answer))


if __name__ == "__main__":
    unittest.main()
