"""A slow store and its transactions, written down straight from the document, with which the quick ones are compared.

The rows of a moment are a dict from (table, key) to the payload, as a version of a Model.
"""

from coverstore.bases import Base

from model import Model
from slow import plain, put_in


def at_rows(model, rows):
    """A model whose version 0 has these rows."""
    other = Model(model.bits)
    other.forms, other.versions = model.forms, [rows]
    return other


def base_of(model, rows, writes=()):
    """A base with these rows, on which writes were committed after that."""
    base = Base(model.bits)
    for name, orders in model.forms.items():
        base.add_table(name, len(orders[0]), *orders[1:])
    base.commit([("insert", table, key, payload) for (table, key), payload in rows.items()])
    base.commit(list(writes))
    return base


def performed(rows, write):
    """The rows after a write, and its outcome."""
    kind, table, key, *payload = write
    if ((table, key) in rows) == (kind == "insert"):
        return rows, "refused"
    left = {row: rows[row] for row in rows if row != (table, key)}
    if kind != "delete":
        left[table, key] = payload[0]
    return left, "done"


def answer_at(model, rows, query):
    return plain(at_rows(model, rows), 0, query)


def groups_at(model, rows, query, by, what, of):
    """The results of the groups of the answer, by the words of the document."""
    groups = {}
    for point in answer_at(model, rows, query):
        name = tuple(point[query.variables.index(variable)] for variable in by)
        if of is None:
            amount = 1
        elif isinstance(of, str):
            amount = point[query.variables.index(of)]
        else:
            literal = query.literals()[of]
            amount = rows[literal[1], put_in(literal, query.variables, point)]
        groups.setdefault(name, []).append(amount)
    result = {"count": len, "sum": sum, "least": min, "greatest": max}[what]
    return {name: result(groups[name]) for name in sorted(groups)}


class SlowStore:
    """All versions of the rows, and the constraints."""

    def __init__(self, bits):
        self.model = Model(bits)
        self.constraints = {}

    @property
    def version(self):
        return len(self.model.versions) - 1

    def add_table(self, name, columns, *orders):
        self.model.add_table(name, columns, *orders)

    def require(self, name, query):
        """Add the constraint, or return the least point for which it cannot be added."""
        answer = answer_at(self.model, self.model.versions[-1], query)
        if answer:
            return answer[0]
        self.constraints[name] = query
        return None

    def begin(self):
        return SlowTransaction(self)

    def violated(self, rows):
        """The name of the first constraint whose answer is not empty, with its least point, or None."""
        for name, query in self.constraints.items():
            answer = answer_at(self.model, rows, query)
            if answer:
                return name, answer[0]
        return None


class SlowTransaction:
    """The acts, and the rows after the successful writes so far."""

    def __init__(self, store):
        self.store, self.version = store, store.version
        self.rows = dict(store.model.versions[-1])
        self.acts, self.writes = [], []

    def ask(self, query):
        answer = answer_at(self.store.model, self.rows, query)
        self.acts.append(("ask", query, answer))
        return answer

    def groups(self, query, by, what, of):
        results = groups_at(self.store.model, self.rows, query, by, what, of)
        self.acts.append(("groups", query, by, what, of, results))
        return results

    def write(self, *write):
        self.rows, outcome = performed(self.rows, write)
        self.acts.append((*write, outcome))
        if outcome == "done":
            self.writes.append(write)
        return outcome

    def commit(self):
        """("version", version), ("changed", act, item) or ("violated", name, point)."""
        if not self.writes:
            return "version", self.version
        rows = self.store.model.versions[-1]
        for number, act in enumerate(self.acts):
            rows, item = self.looked_at(act, rows)
            if item is not None:
                return "changed", number, item
        violated = self.store.violated(rows)
        if violated is not None:
            return ("violated", *violated)
        self.store.model.versions.append(rows)
        return "version", self.store.version

    def looked_at(self, act, rows):
        """The rows after an act, and the item for which it has not the same outcome, or None."""
        model = self.store.model
        if act[0] == "ask":
            one_alone = set(act[2]) ^ set(answer_at(model, rows, act[1]))
            return rows, min(one_alone, default=None)
        if act[0] == "groups":
            now, before = groups_at(model, rows, *act[1:5]), act[5]
            others = [name for name in set(now) | set(before) if now.get(name) != before.get(name)]
            return rows, min(others, default=None)
        rows, outcome = performed(rows, act[:-1])
        return rows, None if outcome == act[-1] else act[2]
