"""Transactions: questions and writes that see one version of a store, and are committed together."""

from coverstore.acts import DONE, REFUSED, Asked, Grouped, Written, check_acts
from coverstore.engine import paper_of
from coverstore.errors import Ended
from coverstore.groups import Grouping
from coverstore.judging import check_key
from coverstore.workspaces import Workspace
from coverstore.writes import check_row, raise_refusal


class Transaction:
    """Acts that begin at a version of a store; made by Store.begin alone."""

    def __init__(self, ledger):
        self._ledger = ledger
        self._snapshot = ledger.snapshot()
        self._version = self._snapshot.version
        self._workspace = Workspace(self._snapshot)
        self._acts = []
        self._is_open = True

    @property
    def version(self):
        """The version with which the transaction began."""
        return self._version

    @property
    def is_open(self):
        """Whether the transaction was neither committed, with or without success, nor abandoned."""
        return self._is_open

    def ask(self, query, *, limit=2000):
        """The answer of a query."""
        self._check_open()
        act = Asked(paper_of(self._workspace.shown(), query, limit=limit))
        self._acts.append(act)
        return act.answer()

    def groups(self, query, by=(), what="count", of=None, *, limit=2000):
        """The results of groups of the answer of a query, a dict from their names in ascending order."""
        self._check_open()
        grouping = Grouping(query, by, what, of)
        source = self._workspace.shown()
        act = Grouped(grouping, paper_of(source, query, limit=limit), source)
        self._acts.append(act)
        return act.results()

    def add_row(self, table, key, payload):
        """Insert a row whose key must be absent."""
        self._check_open()
        check_row(self._snapshot, table, key, payload)
        self._perform(("insert", table, key, payload))

    def change_row(self, table, key, payload):
        """Give another payload to a key, which must be present."""
        self._check_open()
        check_row(self._snapshot, table, key, payload)
        self._perform(("update", table, key, payload))

    def drop_row(self, table, key):
        """Delete the row of a key, which must be present."""
        self._check_open()
        check_key(self._snapshot, table, key)
        self._perform(("delete", table, key))

    def commit(self):
        """Make the writes the next version, if all acts would have the same outcomes at the newest one."""
        self._check_open()
        # Whatever follows, also an error, ends the transaction.
        self._is_open = False
        writes = self._workspace.writes()
        if len(writes) == 0:
            return self._version
        newest = self._ledger.snapshot()
        if newest.version > self._version:
            check_acts(self._acts, newest)
        return self._ledger.commit(writes)

    def abandon(self):
        """End the transaction without a commit."""
        self._check_open()
        self._is_open = False

    def acts(self):
        """The list of all acts, with their outcomes."""
        return [act.as_tuple() for act in self._acts]

    def writes(self):
        """The list of the writes that succeeded."""
        return self._workspace.writes()

    def _check_open(self):
        if not self._is_open:
            raise Ended()

    def _perform(self, write):
        if self._workspace.performs(write):
            self._acts.append(Written(write, DONE))
            return
        self._acts.append(Written(write, REFUSED))
        raise_refusal(write)
