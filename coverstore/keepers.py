"""Keepers: queries that are kept under names, each with a paper that is repaired when it is asked for."""

from coverstore.engine import paper_of
from coverstore.errors import InvalidName, NameTaken, UnknownName
from coverstore.judging import check_key, meant_version
from coverstore.kinds import is_name
from coverstore.lines import is_hit
from coverstore.repair import repaired


class Keeper:
    """Queries of a base under names; each of them has a paper, and the version at which this paper is right."""

    def __init__(self, base):
        self._base = base
        self._papers = {}
        self._versions = {}
        self._serials = {}
        self._count = 0

    def keep(self, name, query, *, limit=2000):
        """Keep a query under a name, with its paper at the newest version."""
        if not is_name(name):
            raise InvalidName(name)
        if name in self._papers:
            raise NameTaken(name)
        self._papers[name] = paper_of(self._base.snapshot(), query, limit=limit)
        self._versions[name] = self._base.version
        self._serials[name] = self._count
        self._count += 1

    def release(self, name):
        """Keep the query of this name no more."""
        self._check_name(name)
        del self._papers[name]
        del self._versions[name]
        del self._serials[name]

    def names(self):
        """The list of the names, in the sequence in which they were added last."""
        return list(self._papers)

    def kept_query(self, name):
        """The query that is kept under a name."""
        self._check_name(name)
        return self._papers[name].query

    def kept_paper(self, name):
        """The paper of a kept query as it is now."""
        self._check_name(name)
        return self._papers[name]

    def version_of(self, name):
        """The version at which the paper of a kept query was made, or caught up last."""
        self._check_name(name)
        return self._versions[name]

    def serial_of(self, name):
        """The number of the call of keep that this name goes back to; no two calls have the same."""
        self._check_name(name)
        return self._serials[name]

    def answer(self, name, version=None):
        """The answer of a kept query at a version; at the newest one, its paper catches up first."""
        self._check_name(name)
        meant = meant_version(self._base, version)
        if meant < self._base.version:
            return paper_of(self._base.snapshot(meant), self._papers[name].query).points()
        self.catch_up(name)
        return self._papers[name].points()

    def catch_up(self, *names):
        """Repair the papers of these names, or of all, at the newest version."""
        for name in names:
            self._check_name(name)
        source = self._base.snapshot()
        meant = names if len(names) > 0 else self.names()
        for name in meant:
            if self._versions[name] < source.version:
                self._papers[name] = repaired(source, self._papers[name]).paper
                self._versions[name] = source.version

    def hits(self, table, key):
        """The list of the (name, number of a line) of all lines of the kept papers that are hit by a key."""
        check_key(self._base, table, key)
        return [(name, number) for name in self._papers for number in self._lines_hit(name, table, key)]

    def snapshot(self, version=None):
        """The snapshot of the base at a version."""
        return self._base.snapshot(version)

    def __len__(self):
        return len(self._papers)

    def __contains__(self, value):
        return isinstance(value, str) and value in self._papers

    def _check_name(self, name):
        if name not in self:
            raise UnknownName(name)

    def _lines_hit(self, name, table, key):
        paper = self._papers[name]
        return [number for number, line in enumerate(paper.lines()) if is_hit(paper.query, line, table, key)]
