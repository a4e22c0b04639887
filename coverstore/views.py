"""Views: kept queries with groups of their answers."""

from coverstore.errors import UnknownName
from coverstore.groups import Grouping


class View:
    """The groups of a query that a keeper keeps under a name, until this query is released."""

    def __init__(self, keeper, name, query, by=(), what="count", of=None):
        self._grouping = Grouping(query, by, what, of)
        keeper.keep(name, query)
        self._keeper = keeper
        self._name = name
        self._serial = keeper.serial_of(name)

    def results(self, version=None):
        """A dict from the names of the groups at a version, in ascending order, to their results."""
        self._check_kept()
        points = self._keeper.answer(self._name, version)
        return self._grouping.results(self._keeper.snapshot(version), points)

    def difference(self, version):
        """The names of the groups that are new since a version, that are gone, and that have another result now."""
        # The version that can raise an error goes first: the kept paper only catches up if none is raised.
        before = self.results(version)
        now = self.results()
        came = [name for name in now if name not in before]
        went = [name for name in before if name not in now]
        changed = [name for name in now if name in before and now[name] != before[name]]
        return came, went, changed

    def _check_kept(self):
        if self._keeper.serial_of(self._name) != self._serial:
            raise UnknownName(self._name)
