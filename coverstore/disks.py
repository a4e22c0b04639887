"""Disks: pages that are written one after another, until the disk crashes."""

from coverstore.errors import Crashed, InvalidCount, InvalidPage, InvalidPlace
from coverstore.kinds import is_count, is_place


class Disk:
    """A list of pages, strings of the same length."""

    PAGE = 32

    def __init__(self):
        self._pages = []
        # The number of further pages that may be written before the disk crashes; None if it does not crash.
        self._left = None

    @property
    def has_crashed(self):
        """Whether no further page may be written."""
        return self._left == 0

    def pages(self):
        """The list of the pages."""
        return list(self._pages)

    def write(self, page):
        """Write a page at the end."""
        check_page(page)
        if self.has_crashed:
            raise Crashed()
        self._pages.append(page)
        if self._left is not None:
            self._left -= 1

    def crash_after(self, count):
        """Let the disk crash after so many further pages; once it has crashed, it stays so."""
        if not is_count(count):
            raise InvalidCount(count)
        if not self.has_crashed:
            self._left = count

    def restarted(self):
        """A new disk with the same pages, which does not crash."""
        disk = Disk()
        for page in self._pages:
            disk.write(page)
        return disk

    def spoil(self, number, page):
        """Replace a page by another one."""
        if not is_place(number, len(self._pages)):
            raise InvalidPlace(number)
        check_page(page)
        self._pages[number] = page

    def keep_first(self, count):
        """Remove all pages after the first ones, so many."""
        self._pages = self._pages[:count]

    def __len__(self):
        return len(self._pages)


def check_page(page):
    """Raise InvalidPage for what is no page."""
    if not isinstance(page, str) or len(page) != Disk.PAGE:
        raise InvalidPage(page)
