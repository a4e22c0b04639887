"""Ledgers: the tables, rows and constraints of a store, and the log that is told of each change before it happens."""

from coverstore.bodies import commit_body, require_body, table_body
from coverstore.engine import paper_of
from coverstore.errors import InvalidName, NameTaken, NotEmpty, Violated
from coverstore.kinds import is_name
from coverstore.overlays import Overlay
from coverstore.repair import repaired


class Ledger:
    """A base that is changed through this ledger alone, and constraints, whose answers are empty at each version."""

    def __init__(self, base):
        self._base = base
        self._papers = {}
        self._log = None

    @property
    def version(self):
        """The newest version."""
        return self._base.version

    def tell_log(self, log):
        """From now on tell a log the body of each change before it happens."""
        self._log = log

    def snapshot(self):
        """The snapshot of the newest version."""
        return self._base.snapshot()

    def add_table(self, name, columns, orders):
        """Add a table; orders are those after the ascending one."""
        self._base.orders_to_add(name, columns, orders)
        self._tell(table_body(name, columns, orders))
        self._base.add_table(name, columns, *orders)

    def require(self, name, query):
        """Add a constraint: a query with a name, whose answer is empty and must stay so."""
        if not is_name(name):
            raise InvalidName(name)
        if name in self._papers:
            raise NameTaken(name)
        paper = paper_of(self._base.snapshot(), query)
        points = paper.points()
        if len(points) > 0:
            raise NotEmpty(points[0])
        self._tell(require_body(name, query))
        self._papers[name] = paper

    def constraints(self):
        """The list of the names of the constraints, in the sequence in which they were added."""
        return list(self._papers)

    def commit(self, writes):
        """Make writes the next version, which is returned, if no constraint would be violated."""
        papers = self._papers_at(Overlay(self._base.snapshot(), writes))
        self._tell(commit_body(self._base.version + 1, writes))
        version = self._base.commit(writes)
        self._papers = papers
        return version

    def _papers_at(self, source):
        papers = {}
        for name, paper in self._papers.items():
            papers[name] = repaired(source, paper).paper
            points = papers[name].points()
            if len(points) > 0:
                raise Violated(name, points[0])
        return papers

    def _tell(self, body):
        if self._log is not None:
            self._log.note(body)
