"""A slow base, written down straight from the document, with which the quick one is compared."""

from coverstore.bases import Base
from coverstore.boxes import Box

from helpers import Numbers, all_points, digits_of

# The orders of the tables that most papers in the tests are about.
FORMS = {"r": [(0, 1), (1, 0)], "s": [(0,)], "t": [(0, 1, 2), (2, 0, 1), (1, 2, 0)]}


def commit_to_both(base, model, writes):
    """Commit writes that succeed."""
    assert model.commit(writes) is None
    base.commit(writes)


def some_writes(numbers, model, many):
    """Writes that can be performed: some keys come, some go, some get another payload."""
    writes, left = [], dict(model.versions[-1])
    for _ in range(many):
        table = numbers.one_of(sorted(model.forms))
        key = numbers.one_of(model.all_keys(table))
        kind = numbers.one_of(("update", "delete")) if (table, key) in left else "insert"
        payload = numbers.below(100) - 50
        writes.append((kind, table, key) if kind == "delete" else (kind, table, key, payload))
        if kind == "delete":
            del left[table, key]
        else:
            left[table, key] = payload
    return writes


def filled_pair(seed, bits, commits=1, many=12, forms=None):
    """A base, and a model with the same tables and versions."""
    numbers, base, model = Numbers(seed), Base(bits), Model(bits)
    for name, orders in (forms or FORMS).items():
        for one in (base, model):
            one.add_table(name, len(orders[0]), *orders[1:])
    for _ in range(commits):
        commit_to_both(base, model, some_writes(numbers, model, many))
    return base, model


class Model:
    """All versions, each a dict from (table, key) to the payload of each present key."""

    def __init__(self, bits):
        self.bits = bits
        self.forms = {}
        self.versions = [{}]

    def add_table(self, name, columns, *orders):
        self.forms[name] = [tuple(range(columns)), *orders]

    def all_keys(self, table):
        return all_points(self.bits, len(self.forms[table][0]))

    def commit(self, writes):
        """Perform the writes, or return the ("taken" or "none", table, key) of the first that does not succeed."""
        rows = dict(self.versions[-1])
        for kind, table, key, *payload in writes:
            if kind == "insert" and (table, key) in rows:
                return "taken", table, key
            if kind != "insert" and (table, key) not in rows:
                return "none", table, key
            if kind == "delete":
                del rows[table, key]
            else:
                rows[table, key] = payload[0]
        if writes:
            self.versions.append(rows)
        return None

    def payload(self, table, key, version):
        return self.versions[version].get((table, key))

    def rows(self, table, version):
        return sorted((key, payload) for (name, key), payload in self.versions[version].items() if name == table)

    def keys_in(self, table, box, version):
        return [key for key, _ in self.rows(table, version) if box.holds(key)]

    def changed_keys(self, version):
        if version == 0:
            return []
        return [
            (table, key) for table in self.forms for key in self.all_keys(table)
            if self.payload(table, key, version) != self.payload(table, key, version - 1)
        ]

    def first_later(self, version, differs):
        return next((later for later in range(version + 1, len(self.versions)) if differs(later)), None)

    def presence_break(self, table, key, version):
        was = self.payload(table, key, version) is None
        return self.first_later(version, lambda later: (self.payload(table, key, later) is None) != was)

    def payload_break(self, table, key, version):
        was = self.payload(table, key, version)
        return self.first_later(version, lambda later: self.payload(table, key, later) != was)

    def clear_break(self, table, box, version):
        return self.first_later(version, lambda later: self.keys_in(table, box, later))

    def gap(self, table, key, number, version):
        """The gap by the words of the document."""
        order = self.forms[table][number]
        present = [other for other, _ in self.rows(table, version)]
        for shared in range(len(key) - 1, -1, -1):
            alike = [other for other in present if all(other[at] == key[at] for at in order[:shared])]
            if alike or shared == 0:
                break
        column = order[shared]
        ranges = [""] * len(key)
        for at in order[:shared]:
            ranges[at] = digits_of(key[at], self.bits)
        digits = digits_of(key[column], self.bits)
        ranges[column] = next(
            digits[:length] for length in range(self.bits + 1)
            if not any(digits_of(other[column], self.bits).startswith(digits[:length]) for other in alike)
        )
        return Box(self.bits, ranges)
