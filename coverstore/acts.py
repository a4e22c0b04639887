"""Acts of transactions: what was asked or written, with its outcome, and whether it would have the same one now."""

from coverstore.errors import Changed
from coverstore.repair import repaired
from coverstore.workspaces import Workspace

DONE = "done"
REFUSED = "refused"


def check_acts(acts, source):
    """Raise Changed for the first act that would not have the same outcome if all began with this source."""
    workspace = Workspace(source)
    for number, act in enumerate(acts):
        item = act.changed_item(workspace)
        if item is not None:
            raise Changed(number, item)


def least_other(before, now):
    """The least name that has not the same result in two dicts, or None."""
    names = [name for name in before if before[name] != now.get(name)]
    names.extend([name for name in now if name not in before])
    return min(names, default=None)


class Asked:
    """A question for the answer of a query, with the paper of this answer."""

    def __init__(self, paper):
        self._paper = paper

    def answer(self):
        """The answer, a list."""
        return self._paper.points()

    def as_tuple(self):
        """The act as a transaction tells it."""
        return "ask", self._paper.query, self.answer()

    def changed_item(self, workspace):
        """The least point that is in one of the answers, this one and that in a workspace, alone, or None."""
        repair = repaired(workspace.shown(), self._paper)
        return min(repair.lost() + repair.found(), default=None)


class Grouped:
    """A question for groups of the answer of a query, with the paper of this answer and their results."""

    def __init__(self, grouping, paper, source):
        self._grouping = grouping
        self._paper = paper
        self._results = grouping.results(source, paper.points())

    def results(self):
        """The results of the groups, a dict."""
        return {name: self._results[name] for name in self._results}

    def as_tuple(self):
        """The act as a transaction tells it."""
        grouping = self._grouping
        return "groups", self._paper.query, grouping.by, grouping.what, grouping.of, self.results()

    def changed_item(self, workspace):
        """The least name of a group that has another result in a workspace, or None."""
        source = workspace.shown()
        points = repaired(source, self._paper).paper.points()
        return least_other(self._results, self._grouping.results(source, points))


class Written:
    """A write, with its outcome."""

    def __init__(self, write, outcome):
        self._write = write
        self._outcome = outcome

    def as_tuple(self):
        """The act as a transaction tells it."""
        return self._write + (self._outcome,)

    def changed_item(self, workspace):
        """The key if the write, which is performed in a workspace, has another outcome there, or None."""
        outcome = DONE if workspace.performs(self._write) else REFUSED
        return None if outcome == self._outcome else self._write[2]
