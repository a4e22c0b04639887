"""Points [42] and [43]: records, durable stores, crashes, and stores that are recovered from a disk."""

import unittest

import test_bases
from coverstore.boxes import Box
from coverstore.disks import Disk
from coverstore.durable import DurableStore, pages_of, record_text
from coverstore.errors import Changed, Crashed, DiskInUse, InvalidBits, InvalidColumns, InvalidName, InvalidOrder
from coverstore.errors import KeyTaken, NameTaken, NoStore, NotEmpty, TooMany, TooOld, UnknownName, UnknownTable
from coverstore.errors import Violated
from coverstore.queries import Query
from coverstore.stores import Store

from helpers import NOT_INTEGERS, NOT_NAMES, EqualsAll, Raises
from pairs import change

LONG = ("r(x,y), not r(y,x), r(x,x), x < y, y != 3, not s(y), not r(1,2), 0 <= x by y,x",
        "not r(a,b), r(b,a), s(a), not s(b), a < b, s(1000), r(1,1023), s(1)")


def check_sum(text):
    """The check sum by the words of the document."""
    total = 0
    for position in range(1, len(text) + 1):
        total += ord(text[position - 1]) * position
    return str(10000 + total % 9973)[1:]


def pages_for(*bodies):
    """The pages of the records of these bodies, by the words of the document."""
    pages = []
    for body in bodies:
        record = body + " " + check_sum(body)
        while len(record) > 31:
            pages.append("+" + record[:31])
            record = record[31:]
        pages.append("." + record + " " * (31 - len(record)))
    return pages


def made(bits=3):
    disk = Disk()
    return disk, DurableStore(bits, disk)


class TablesTest(test_bases.TablesTest):
    """The tables of a durable store are as those of a base."""

    @staticmethod
    def made(bits):
        return DurableStore(bits=bits, disk=Disk())


class RecordTest(unittest.TestCase):

    def test_check_sums(self):
        self.assertEqual("a 0097", record_text("a"))
        self.assertEqual(f"ab {97 + 2 * 98:04d}", record_text(body="ab"))
        # 9973 itself has the check sum of nothing.
        for body in ("bits 3", "table r 2 -", "~" * 500, " ", "a b  c", "commit 12 insert r 1,2 -3; delete r 0,0", ""):
            self.assertEqual(body + " " + check_sum(body), record_text(body))
        self.assertEqual(" 0000", record_text(""))

    def test_modulus(self):
        sums = {int(check_sum("z" * many + last)) for many in range(60) for last in "abcdefghij"}
        self.assertTrue(max(sums) > 9000 and min(sums) < 1000)
        for many in range(60):
            body = "z" * many
            total = 122 * many * (many + 1) // 2
            self.assertEqual(f"{body} {total % 9973:04d}", record_text(body))

    def test_pages(self):
        for length in (1, 5, 30, 31, 32, 61, 62, 63, 93, 200):
            record = "".join(chr(97 + place % 26) for place in range(length))
            pages = pages_of(record=record)
            self.assertIs(list, type(pages))
            self.assertEqual((length + 30) // 31, len(pages))
            self.assertEqual([32] * len(pages), [len(page) for page in pages])
            self.assertEqual("+" * (len(pages) - 1) + ".", "".join(page[0] for page in pages))
            text = "".join(page[1:] for page in pages)
            self.assertEqual((record, ""), (text[:length], text[length:].strip(" ")))

    def test_pages_of_a_multiple_of_the_part(self):
        self.assertEqual(["." + "x" * 31], pages_of("x" * 31))
        self.assertEqual(["+" + "x" * 31, "." + "x" * 31], pages_of("x" * 62))
        self.assertEqual(["+" + "x" * 31, ".x" + " " * 30], pages_of("x" * 32))


class WritingTest(unittest.TestCase, Raises):

    def test_bits(self):
        for bits in (1, 9, 10):
            disk, store = made(bits)
            self.assertEqual((pages_for(f"bits {bits}"), bits), (disk.pages(), store.bits))
        disk = Disk()
        DurableStore(disk=disk, bits=2)
        self.assertEqual(pages_for("bits 2"), disk.pages())

    def test_is_a_store(self):
        self.assertTrue(issubclass(DurableStore, Store))
        for name in ("add_table", "require", "recovered"):
            self.assertIn(name, vars(DurableStore))

    def test_tables(self):
        disk, store = made()
        self.assertIsNone(store.add_table("r", 2))
        store.add_table(name="abcdefgh", columns=1)
        store.add_table("s", 2, (1, 0))
        store.add_table("t", 4, (3, 2, 1, 0), (0, 2, 1, 3))
        self.assertEqual(pages_for("bits 3", "table r 2 -", "table abcdefgh 1 -", "table s 2 1,0",
                                   "table t 4 3,2,1,0;0,2,1,3"), disk.pages())
        self.assertEqual([(0, 1, 2, 3), (3, 2, 1, 0), (0, 2, 1, 3)], store.orders("t"))

    def test_constraints(self):
        disk, store = made(10)
        store.add_table("r", 2)
        store.add_table("s", 1)
        self.assertIsNone(store.require("a", Query.read("s(x)")))
        for name, text in zip("bc", LONG):
            store.require(name=name, query=Query.read(text))
        self.assertEqual(pages_for("bits 10", "table r 2 -", "table s 1 -", "require a s(x)", f"require b {LONG[0]}",
                                   f"require c {LONG[1]}"), disk.pages())
        self.assertEqual(["a", "b", "c"], store.constraints())

    def test_commits(self):
        disk, store = made(10)
        store.add_table("r", 2)
        store.add_table("s", 1)
        start = len(disk)
        change(store, ("insert", "s", (0,), 0))
        change(store, ("insert", "r", (1023, 7), -10 ** 9), ("update", "r", (1023, 7), 10 ** 9), ("delete", "s", (0,)))
        change(store, ("delete", "r", (1023, 7)))
        change(store, *[("insert", "s", (value,), -value) for value in range(40)])
        for version in range(5, 12):
            change(store, ("update", "s", (1,), version))
        many = "; ".join(f"insert s {value} {-value}" for value in range(40))
        self.assertEqual(
            pages_for("commit 1 insert s 0 0",
                      "commit 2 insert r 1023,7 -1000000000; update r 1023,7 1000000000; delete s 0",
                      "commit 3 delete r 1023,7", f"commit 4 {many}",
                      *[f"commit {version} update s 1 {version}" for version in range(5, 12)]),
            disk.pages()[start:])
        self.assertEqual(11, store.version)

    def test_writes_that_cancel_each_other_are_written(self):
        disk, store = made()
        store.add_table("s", 1)
        change(store, ("insert", "s", (1,), 5), ("delete", "s", (1,)))
        self.assertEqual(pages_for("commit 1 insert s 1 5; delete s 1"), disk.pages()[2:])

    def test_what_is_not_written(self):
        disk, store = made()
        store.add_table("s", 1)
        change(store, ("insert", "s", (1,), 5))
        store.require("a", Query.read("s(2)"))
        pages = disk.pages()
        for call, *given in ((store.add_table, "s", 1), (store.add_table, "t", 5), (store.add_table, "t", 1, (0,)),
                             (store.require, "a", Query.read("s(3)")), (store.require, "b", Query.read("s(x)")),
                             (store.require, "b", Query.read("u(x)"))):
            self.assertRaises(Exception, call, *given)
        store.keeper.keep("a", Query.read("s(x)"))
        store.pin("a", 0)
        store.unpin("a")
        store.forget(1)
        transaction = store.begin()
        transaction.ask(Query.read("s(x)"))
        self.assertRaises(KeyTaken, transaction.add_row, "s", (1,), 5)
        self.assertEqual(1, transaction.commit())
        for end in ("changed", "violated", "abandoned"):
            transaction = store.begin()
            transaction.ask(Query.read("s(x)"))
            transaction.add_row("s", (2 if end == "violated" else 3,), 0)
            if end == "abandoned":
                transaction.abandon()
            elif end == "violated":
                self.assertRaises(Violated, transaction.commit)
        self.assertEqual(pages, disk.pages())
        transaction = store.begin()
        transaction.ask(Query.read("s(x)"))
        transaction.add_row("s", (4,), 0)
        change(store, ("insert", "s", (3,), 0))
        pages = disk.pages()
        self.assertRaises(Changed, transaction.commit)
        self.assertEqual(pages, disk.pages())

    def test_making_a_store(self):
        disk = Disk()
        disk.crash_after(0)
        used = made()[0]
        for bits in (0, 11, EqualsAll()) + NOT_INTEGERS:
            for one in (disk, used, Disk()):
                self.must_raise(InvalidBits, {"value": bits}, DurableStore, bits, one)
        self.must_raise(DiskInUse, {}, DurableStore, 3, used)
        used.crash_after(0)
        self.must_raise(DiskInUse, {}, DurableStore, 3, used)
        self.must_raise(Crashed, {}, DurableStore, 3, disk)
        self.assertEqual((0, 1), (len(disk), len(used)))
        other = Disk()
        other.write("x" * 32)
        self.must_raise(DiskInUse, {}, DurableStore, 3, other)
        last = Disk()
        last.crash_after(1)
        self.assertEqual((3, True), (DurableStore(3, last).bits, last.has_crashed))

    def test_the_plain_store_has_no_disk(self):
        store = Store(3)
        store.add_table("s", 1)
        self.assertEqual(1, change(store, ("insert", "s", (1,), 5)))


def steps(store):
    """Calls that each write one record."""
    return [
        lambda: store.add_table("r", 2, (1, 0)),
        lambda: store.add_table("s", 1),
        lambda: store.require("a", Query.read("s(x), r(x,x), x != 7, not s(0), r(0,x), not r(x,0)")),
        lambda: change(store, ("insert", "s", (1,), 5)),
        lambda: change(store, ("insert", "r", (1, 2), -100), ("insert", "r", (1, 3), 10), ("delete", "s", (1,)),
                       ("insert", "s", (4,), 0)),
        lambda: store.require("b", Query.read("s(7)")),
        lambda: store.add_table("t", 3, (2, 1, 0), (1, 2, 0)),
        lambda: change(store, ("update", "s", (4,), 77), ("insert", "t", (1, 2, 3), 1)),
        lambda: change(store, ("delete", "s", (4,))),
    ]


def told(store):
    """All that a store tells and that is recovered."""
    rows = [
        (version, table, key, store.snapshot(version).payload(table, key))
        for version in range(store.oldest, store.version + 1) for table in store.tables()
        for key in store.snapshot(version).keys_in(table, Box.whole(store.bits, store.columns(table)))
    ]
    tables = [(table, store.columns(table), store.orders(table)) for table in store.tables()]
    return store.bits, store.version, tables, store.constraints(), rows


def history():
    """What is told after each step, and the pages that there are then; the first is that of a new store."""
    disk, store = made()
    states, ends = [told(store)], [len(disk)]
    for step in steps(store):
        step()
        states.append(told(store))
        ends.append(len(disk))
    return disk, states, ends


class CrashTest(unittest.TestCase, Raises):

    def test_at_every_page(self):
        whole, states, ends = history()
        self.assertGreater(max(end - start for start, end in zip(ends, ends[1:])), 2)
        for pages in range(1, len(whole)):
            disk, store = made()
            disk.crash_after(pages - 1)
            done = 0
            for number, step in enumerate(steps(store)):
                if ends[number + 1] <= pages:
                    step()
                    done = number + 1
                    continue
                self.must_raise(Crashed, {}, step)
                break
            # The pages that were written stay; nothing has changed unless the last one of a record was written.
            self.assertEqual(whole.pages()[:pages], disk.pages())
            self.assertEqual(states[done], told(store))
            self.assertIs(True, disk.has_crashed)
            for other in (disk.restarted(), disk):
                recovered = DurableStore.recovered(other)
                self.assertEqual(states[done], told(recovered))
                self.assertEqual(whole.pages()[:ends[done]], other.pages())

    def test_a_crashed_commit_ends_the_transaction(self):
        disk, store = made()
        store.add_table("s", 1)
        transaction = store.begin()
        transaction.add_row("s", (1,), 5)
        disk.crash_after(0)
        self.must_raise(Crashed, {}, transaction.commit)
        self.assertEqual((False, 0, 2), (transaction.is_open, store.version, len(disk)))
        self.assertEqual([("insert", "s", (1,), 5)], transaction.writes())
        self.assertEqual([], store.begin().ask(Query.read("s(x)")))
        store.forget(0)

    def test_behind_all_other_errors(self):
        disk, store = made()
        for name in "abcdefg":
            store.add_table(name, 1)
        store.require("a", Query.read("a(7)"))
        change(store, ("insert", "a", (1,), 5))
        open_ones = [store.begin() for _ in range(3)]
        for transaction, value in zip(open_ones, (7, 2, 3)):
            transaction.add_row("a", (value,), 0)
        open_ones[1].ask(Query.read("b(x)"))
        change(store, ("insert", "b", (2,), 5))
        disk.crash_after(0)
        for name in NOT_NAMES:
            self.must_raise(InvalidName, {"value": name}, store.add_table, name, 1)
            self.must_raise(InvalidName, {"value": name}, store.require, name, Query.read("a(6)"))
        self.must_raise(NameTaken, {"name": "a"}, store.add_table, "a", 1)
        self.must_raise(InvalidColumns, {"value": 5}, store.add_table, "h", 5)
        self.must_raise(InvalidOrder, {"position": 0}, store.add_table, "h", 1, (0,))
        self.must_raise(Crashed, {}, store.add_table, "h", 1)
        self.must_raise(NameTaken, {"name": "a"}, store.require, "a", Query.read("a(6)"))
        self.must_raise(UnknownTable, {"value": "u"}, store.require, "b", Query.read("u(6)"))
        self.must_raise(NotEmpty, {"point": (1,)}, store.require, "b", Query.read("a(x)"))
        self.must_raise(Crashed, {}, store.require, "b", Query.read("a(6)"))
        self.must_raise(Violated, {"name": "a", "point": ()}, open_ones[0].commit)
        self.must_raise(Changed, {"act": 1, "item": (2,)}, open_ones[1].commit)
        self.must_raise(Crashed, {}, open_ones[2].commit)
        self.assertEqual((2, list("abcdefg"), ["a"]), (store.version, store.tables(), store.constraints()))
        # What writes nothing goes on.
        self.assertEqual(2, store.begin().commit())
        self.assertEqual([(1,)], store.begin().ask(Query.read("a(x)")))
        store.pin("p")
        store.forget(2)

    def test_the_ninth_table_on_a_crashed_disk(self):
        disk, store = made()
        for name in "abcdefgh":
            store.add_table(name, 1)
        disk.crash_after(0)
        self.must_raise(TooMany, {"kind": "tables", "limit": 8}, store.add_table, "i", 1)


class RecoveryTest(unittest.TestCase, Raises):

    def test_a_whole_disk(self):
        whole, states, ends = history()
        for disk in (whole, whole.restarted()):
            store = DurableStore.recovered(disk=disk)
            self.assertIs(DurableStore, type(store))
            self.assertEqual((states[-1], 0), (told(store), store.oldest))
            self.assertEqual(ends[-1], len(disk))

    def test_goes_on_to_write(self):
        whole, states, ends = history()
        for done, end in enumerate(ends):
            for further in (0, 1):
                disk = Disk()
                for page in whole.pages()[:min(len(whole), end + further)]:
                    disk.write(page)
                store = DurableStore.recovered(disk)
                # The next record may have one page only, which is on the disk then.
                done_now = ends.index(len(disk))
                self.assertIn(done_now - done, (0, further))
                for step in steps(store)[done_now:]:
                    step()
                self.assertEqual((states[-1], whole.pages()), (told(store), disk.pages()))

    def test_a_crashed_disk_stays_so(self):
        whole, states, ends = history()
        whole.crash_after(0)
        whole.spoil(ends[-2], "x" * 32)
        store = DurableStore.recovered(whole)
        self.assertEqual((states[-2], ends[-2]), (told(store), len(whole)))
        self.assertIs(True, whole.has_crashed)
        self.must_raise(Crashed, {}, store.add_table, "z", 1)
        self.must_raise(Crashed, {}, steps(store)[-1])

    def test_each_page_spoiled(self):
        whole, states, ends = history()
        for number in range(len(whole)):
            done = len([end for end in ends if end <= number]) - 1
            page = whole.pages()[number]
            others = ["x" * 32, "." + page[1:] if page[0] == "+" else "+" + page[1:], page[:-1] + "x",
                      page[0] + " " + page[2:], pages_for("bits 3")[0], whole.pages()[number - 1],
                      pages_for("commit 99 insert s 1 0")[0], page[:7] + "~" + page[8:]]
            for other in others:
                if other == page or number == 0 and other == pages_for("bits 3")[0]:
                    continue
                for crashed in (False, True):
                    disk = whole.restarted()
                    disk.spoil(number, other)
                    if crashed:
                        disk.crash_after(0)
                    if number == 0:
                        before = disk.pages()
                        self.must_raise(NoStore, {}, DurableStore.recovered, disk)
                        self.assertEqual((before, crashed), (disk.pages(), disk.has_crashed))
                        continue
                    store = DurableStore.recovered(disk)
                    self.assertEqual(states[done], told(store), (number, other))
                    self.assertEqual((whole.pages()[:ends[done]], crashed), (disk.pages(), disk.has_crashed))

    def recovered(self, *bodies, behind=()):
        """The store of a disk with the records of these bodies, then some pages; and the number of pages that stay."""
        disk = Disk()
        for page in pages_for(*bodies) + list(behind):
            disk.write(page)
        return DurableStore.recovered(disk), len(disk)

    GOOD = ("bits 3", "table r 2 1,0", "table s 1 -", "require a r(x,x)", "commit 1 insert r 1,2 -5; insert s 3 0")

    def test_good_records(self):
        more = ("table t 3 -", "commit 2 delete s 3; insert s 3 10; update s 3 -1000000000", "require b s(x), x < 3",
                "table u 1 -", "commit 3 insert t 0,0,7 1000000000")
        store, pages = self.recovered(*self.GOOD, *more)
        self.assertEqual((len(pages_for(*self.GOOD, *more)), 3), (pages, store.version))
        self.assertEqual((["r", "s", "t", "u"], ["a", "b"]), (store.tables(), store.constraints()))
        self.assertEqual(-10 ** 9, store.snapshot().payload("s", (3,)))

    def test_good_records_that_are_no_possible_next_change(self):
        expected, pages = self.recovered(*self.GOOD)
        for body in (
                "bits 3", "bits 4", "", " ", "x", "table", "table t", "table t 1", "table t 1  -", "table t 1 - ",
                "table t 01 -", "table t 5 -", "table t 0 -", "table t 1 0", "table t -1 -", "table r 2 1,0",
                "table by 1 -", "table T 1 -", "table  1 -", "table t 2 0,1", "table t 2 1,0;1,0", "table t 2 1,0;",
                "table t 2 1, 0", "table t 2 1,0,", "table t 2 1,x", "table t 3 2,1,0;1,0,2;0,2,1", "table t 2 01,0",
                "table t 2 1,0 x", "Table t 1 -", " table t 1 -", "table t one -", "table t 1 None", "table t None -",
                "require a s(7)", "require b s(3)", "require b s(x)", "require b u(x)", "require b r(x)",
                "require b s(8)", "require b  s(7)", "require b s(7) ", "require b s(7), s(7) by x", "require b",
                "require b ", "require by s(7)", "require B s(7)", "require b s( 7)", "require b s(07)", "require",
                "require b s(x),x < 2", "Require b s(7)", "keep b s(7)", "require b r(y,x), x < 0 by x,",
                "require b r(y,x), x < 0 by y,x", "require b r(y,x), x < 0 by z,x", "require a r(7,7)",
                "commit 2", "commit 2 ", "commit 1 insert s 4 0", "commit 3 insert s 4 0", "commit 02 insert s 4 0",
                "commit 2  insert s 4 0", "commit 2 insert s 4 0;", "commit 2 insert s 4 0; ", "commit 2 insert s 3 0",
                "commit 2 insert s 4 0;delete s 4", "commit 2 insert s 4 0;  delete s 4", "commit 2 delete s 4",
                "commit 2 update s 4 0", "commit 2 insert s 8 0", "commit 2 insert s 04 0", "commit 2 insert s 4 -0",
                "commit 2 insert s 4 00", "commit 2 insert s 4 +1", "commit 2 insert s 4 1000000001",
                "commit 2 add s 4 0",
                "commit 2 insert s 4 -1000000001", "commit 2 insert s 4", "commit 2 delete s 3 0",
                "commit 2 insert u 4 0",
                "commit 2 insert s 4,4 0", "commit 2 insert r 4 0", "commit 2 insert s , 0", "commit 2 insert s  0",
                "commit 2 insert r 4,4 0", "commit 2 insert s 4 0; insert r 5,5 0", "commit 2 insert s 4 x",
                "commit 2 insert s 4 --1", "commit 2 insert s 4 0; insert s 4 0", "commit 2 insert s (4) 0",
                "commit -2 insert s 4 0", "commit two insert s 4 0", "Commit 2 insert s 4 0", "commit 2 insert s 4 0 "):
            # A good record behind it is not taken either.
            store, stayed = self.recovered(*self.GOOD, body, "table z 1 -")
            self.assertEqual((told(expected), pages), (told(store), stayed), body)

    def test_bits_first(self):
        for bodies in ((), ("table r 2 -",), ("bits 0",), ("bits 11",), ("bits 03",), ("bits",), ("bits ",),
                       ("bits x",), ("bits 3 ",), ("bits  3",), ("Bits 3",), ("bits 3 3",), ("bits -3",), ("bits +3",),
                       ("require a 1 < x", "bits 3"), ("bits 99999999999999999999",), ("",)):
            disk = Disk()
            for page in pages_for(*bodies, "bits 3", "table r 1 -") if bodies else ():
                disk.write(page)
            before = disk.pages()
            self.must_raise(NoStore, {}, DurableStore.recovered, disk)
            self.assertEqual((before, False), (disk.pages(), disk.has_crashed))
        store, pages = self.recovered("bits 10")
        self.assertEqual((10, 1, [], 0), (store.bits, pages, store.tables(), store.version))

    def test_pages_behind(self):
        expected, pages = self.recovered(*self.GOOD)
        table = pages_for("table abcdefgh 4 3,2,1,0;0,1,3,2")
        self.assertEqual(2, len(table))
        for behind in (table[:1], table[1:], table[:1] + pages_for("table t 1 -"), [" " * 32], ["." + " " * 31],
                       ["+" + " " * 31], ["+" + " " * 31] + pages_for("table t 1 -"), ["x" + table[0][1:], table[1]],
                       [table[0], table[0], table[1]], [table[0], "+" + table[1][1:], "." + " " * 31],
                       ["-" + pages_for("table t 1 -")[0][1:]], ["\n" * 32], ["." + "0" * 31]):
            store, stayed = self.recovered(*self.GOOD, behind=behind)
            self.assertEqual((told(expected), pages), (told(store), stayed), behind)
        store, stayed = self.recovered(*self.GOOD, behind=table)
        self.assertEqual((pages + 2, ["r", "s", "abcdefgh"]), (stayed, store.tables()))

    def test_wrong_check_sums_and_fillings(self):
        expected, pages = self.recovered(*self.GOOD)
        body = "table t 1 -"
        good = pages_for(body)[0]
        self.assertEqual(["r", "s", "t"], self.recovered(*self.GOOD, behind=[good])[0].tables())
        end = good.rstrip(" ")
        for page in (end[:-1] + str((int(end[-1]) + 1) % 10), end[:-4].rstrip(" "), end + " x", end + "0",
                     end[0] + " " + end[1:], f".{body}  {check_sum(body)}", f".{body} {int(check_sum(body)) + 9973}"):
            store, stayed = self.recovered(*self.GOOD, behind=[page.ljust(32)])
            self.assertEqual((told(expected), pages), (told(store), stayed), page)

    def test_a_record_with_too_many_pages(self):
        # A record whose length is a multiple of 31 has no further page with spaces alone.
        page = pages_for("require b s(abc), 4 <= abc")
        self.assertEqual(1, len(page))
        self.assertNotIn(" ", page[0][-4:])
        store, stayed = self.recovered(*self.GOOD, behind=page)
        self.assertEqual(["a", "b"], store.constraints())
        store, stayed = self.recovered(*self.GOOD, behind=["+" + page[0][1:], "." + " " * 31])
        self.assertEqual(["a"], store.constraints())

    def test_constraints_whose_papers_are_too_long(self):
        bodies = ("bits 10", "table s 1 -")
        store, pages = self.recovered(*bodies, "require a 0 < x, x < 1, s(x)", "require b s(x), 0 <= y", "table t 1 -")
        self.assertEqual((["a", "b"], ["s", "t"]), (store.constraints(), store.tables()))
        store, pages = self.recovered(*bodies, "require a x < x, y != y", "require b x < y, y < x", "table t 1 -")
        expected = Store(10)
        expected.add_table("s", 1)
        expected.require("a", Query.read("x < x, y != y"))
        self.assertRaises(TooMany, expected.require, "b", Query.read("x < y, y < x"))
        self.assertEqual((["a"], ["s"]), (store.constraints(), store.tables()))

    def test_what_is_not_recovered(self):
        disk, store = made()
        store.add_table("s", 1)
        for value in range(4):
            change(store, ("insert", "s", (value,), 0))
        store.keeper.keep("a", Query.read("s(x)"))
        store.pin("p", 3)
        store.forget(2)
        transaction = store.begin()
        transaction.add_row("s", (7,), 0)
        other = DurableStore.recovered(disk.restarted())
        self.assertEqual(([], {}, 0, 4), (other.keeper.names(), other.pins(), other.oldest, other.version))
        self.assertEqual([0, 1, 2, 3, 4], [len(other.snapshot(version).keys_in("s", Box.whole(3, 1)))
                                           for version in range(5)])
        self.must_raise(TooOld, {"least": 2}, store.snapshot, 1)
        self.must_raise(UnknownName, {"value": "p"}, other.unpin, "p")

    def test_again_and_again(self):
        disk, store = made()
        store.add_table("s", 1)
        store.require("a", Query.read("s(7)"))
        for value in range(5):
            disk = disk.restarted()
            store = DurableStore.recovered(disk)
            self.assertEqual(value + 1, change(store, ("insert", "s", (value,), value)))
            self.assertRaises(Violated, change, store, ("insert", "s", (7,), 0))
        self.assertEqual([(value,) for value in range(5)], store.begin().ask(Query.read("s(x)")))

    def test_the_disk_of_a_store_that_was_used_before(self):
        disk, store = made()
        store.add_table("s", 1)
        other = DurableStore.recovered(disk)
        other.add_table("t", 1)
        self.assertEqual(pages_for("bits 3", "table s 1 -", "table t 1 -"), disk.pages())
        self.assertEqual(["s"], store.tables())


if __name__ == "__main__":
    unittest.main()
