"""Point [41]: disks, their pages, crashes, restarts and spoiled pages."""

import unittest

from coverstore.disks import Disk
from coverstore.errors import Crashed, InvalidCount, InvalidPage, InvalidPlace

from helpers import NOT_INTEGERS, NOT_STRINGS, EqualsAll, Raises

NO_PAGES = NOT_STRINGS + ("", "x" * 31, "x" * 33, "x" * 64, ["x"] * 32, ("x",) * 32, b"x" * 32, EqualsAll())


def page(number):
    return f"page {number}".ljust(32, ".")


def written(many):
    disk = Disk()
    for number in range(many):
        disk.write(page(number))
    return disk


class PagesTest(unittest.TestCase, Raises):

    def test_new_disks(self):
        disk = Disk()
        self.assertEqual((0, [], False, 32), (len(disk), disk.pages(), disk.has_crashed, Disk.PAGE))
        self.assertIs(False, disk.has_crashed)
        self.assertFalse(disk == Disk())

    def test_write(self):
        disk = Disk()
        self.assertIsNone(disk.write(page(0)))
        disk.write(page=page(1))
        disk.write(" " * 32)
        disk.write(page(0))
        disk.write("\n" * 32)
        self.assertEqual([page(0), page(1), " " * 32, page(0), "\n" * 32], disk.pages())
        self.assertEqual((5, False), (len(disk), disk.has_crashed))

    def test_no_pages(self):
        disk = written(1)
        for value in NO_PAGES:
            self.must_raise(InvalidPage, {"value": value}, disk.write, value)
        self.assertEqual([page(0)], disk.pages())

    def test_returned_lists_are_new(self):
        disk = written(2)
        disk.pages().clear()
        self.assertEqual([page(0), page(1)], disk.pages())


class CrashTest(unittest.TestCase, Raises):

    def test_after_further_pages(self):
        for many in range(4):
            disk = written(2)
            self.assertIsNone(disk.crash_after(count=many))
            for number in range(many):
                self.assertIs(False, disk.has_crashed)
                disk.write(page(2 + number))
            # It has crashed as soon as no further page may be written, not only when one is written.
            self.assertIs(True, disk.has_crashed)
            for _ in range(2):
                self.must_raise(Crashed, {}, disk.write, page(9))
            self.assertEqual([page(number) for number in range(2 + many)], disk.pages())
            self.assertIs(True, disk.has_crashed)

    def test_the_last_time_counts(self):
        disk = written(0)
        disk.crash_after(3)
        disk.write(page(0))
        disk.crash_after(2 ** 70)
        for number in range(1, 5):
            disk.write(page(number))
        disk.crash_after(1)
        self.assertIs(False, disk.has_crashed)
        disk.write(page(5))
        self.assertEqual((True, 6), (disk.has_crashed, len(disk)))

    def test_a_crashed_disk_stays_so(self):
        for told in (0, 1, 5):
            disk = written(1)
            disk.crash_after(0)
            self.assertIsNone(disk.crash_after(told))
            self.assertIs(True, disk.has_crashed)
            self.must_raise(Crashed, {}, disk.write, page(1))
            self.assertEqual(1, len(disk))
        disk = written(0)
        disk.crash_after(1)
        disk.write(page(0))
        disk.crash_after(7)
        self.must_raise(Crashed, {}, disk.write, page(1))

    def test_counts(self):
        for crashed in (False, True):
            disk = written(1)
            if crashed:
                disk.crash_after(0)
            for count in (-1, -2 ** 70, EqualsAll()) + NOT_INTEGERS:
                self.must_raise(InvalidCount, {"value": count}, disk.crash_after, count)
            self.assertIs(crashed, disk.has_crashed)
        disk = written(1)
        disk.crash_after(1)
        self.must_raise(InvalidCount, {"value": -1}, disk.crash_after, -1)
        disk.write(page(1))
        self.assertIs(True, disk.has_crashed)

    def test_no_page_before_crashed(self):
        disk = written(1)
        disk.crash_after(0)
        for value in NO_PAGES:
            self.must_raise(InvalidPage, {"value": value}, disk.write, value)

    def test_a_wrong_page_does_not_count(self):
        disk = written(0)
        disk.crash_after(1)
        self.must_raise(InvalidPage, {"value": ""}, disk.write, "")
        self.assertIs(False, disk.has_crashed)
        disk.write(page(0))


class RestartTest(unittest.TestCase, Raises):

    def test_a_new_disk(self):
        for many, crash in ((0, None), (2, None), (2, 0), (2, 3), (0, 0)):
            disk = written(many)
            if crash is not None:
                disk.crash_after(crash)
            other = disk.restarted()
            self.assertIs(Disk, type(other))
            self.assertEqual((disk.pages(), False), (other.pages(), other.has_crashed))
            for number in range(4):
                other.write(page(number))
            self.assertIs(False, other.has_crashed)
            self.assertEqual(many, len(disk))
            self.assertIs(crash == 0, disk.has_crashed)

    def test_apart_from_the_old_one(self):
        disk = written(2)
        other = disk.restarted()
        disk.write(page(2))
        other.spoil(0, page(9))
        disk.crash_after(0)
        self.assertEqual(([page(0), page(1), page(2)], [page(9), page(1)]), (disk.pages(), other.pages()))
        self.assertEqual((True, False), (disk.has_crashed, other.has_crashed))


class SpoilTest(unittest.TestCase, Raises):

    def test_replaces_a_page(self):
        for crashed in (False, True):
            disk = written(3)
            if crashed:
                disk.crash_after(0)
            self.assertIsNone(disk.spoil(1, page(8)))
            disk.spoil(number=2, page=page(1))
            disk.spoil(0, page(0))
            self.assertEqual([page(0), page(8), page(1)], disk.pages())
            self.assertEqual((3, crashed), (len(disk), disk.has_crashed))

    def test_spoiling_is_no_writing(self):
        disk = written(1)
        disk.crash_after(1)
        disk.spoil(0, page(7))
        self.assertIs(False, disk.has_crashed)

    def test_places_first(self):
        disk = written(2)
        for number in (-1, 2, 2 ** 70, EqualsAll()) + NOT_INTEGERS:
            for value in (page(0), "", None):
                self.must_raise(InvalidPlace, {"value": number}, disk.spoil, number, value)
        self.must_raise(InvalidPlace, {"value": 0}, Disk().spoil, 0, page(0))

    def test_no_pages(self):
        disk = written(2)
        for value in NO_PAGES:
            self.must_raise(InvalidPage, {"value": value}, disk.spoil, 1, value)
        self.assertEqual([page(0), page(1)], disk.pages())


if __name__ == "__main__":
    unittest.main()
