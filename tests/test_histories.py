"""Point [4]: after long mixed histories every answer that is told is the plain one at the version that is named."""

import unittest

from coverstore.checks import accepts
from coverstore.disks import Disk
from coverstore.durable import DurableStore
from coverstore.errors import Crashed, Held, NameTaken, Needs, NotEmpty, TooOld
from coverstore.evaluating import plain_answer
from coverstore.queries import Query
from coverstore.reasons import what_if, why, why_not
from coverstore.replicas import Replica, reply, stretch_of
from coverstore.views import View

from helpers import Numbers
from model import some_writes
from pairs import Pairs, change
from slow_store import SlowStore, answer_at, groups_at, performed


class History(unittest.TestCase, Pairs):
    """A durable store beside a slow one; what is kept, viewed and replicated is compared with the slow one's rows."""

    CONSTRAINTS = (("rs", "r(x,3), not s(x)"), ("few", "s(0), s(1), s(2), s(3)"), ("ss", "r(x,x), s(x), x != 2"),
                   ("all", "not t(x), t(0), r(x,0)"))

    def begin(self, seed):
        self.numbers = Numbers(seed)
        self.disk = Disk()
        self.store = DurableStore(2, self.disk)
        self.slow = SlowStore(2)
        self.pairs, self.views, self.replicas, self.pins = [], {}, [], {}
        self.since, self.count = {}, {}
        for name, orders in (("r", [(1, 0)]), ("s", [])):
            self.table(name, 2 - (name == "s"), *orders)

    def table(self, name, columns, *orders):
        self.store.add_table(name, columns, *orders)
        self.slow.add_table(name, columns, *orders)

    def rows(self, version):
        return self.slow.model.versions[version]

    def some_query(self):
        return Query.read(self.numbers.one_of(self.TEXTS))

    def some_version(self):
        return self.numbers.one_of([None, *range(self.store.oldest, self.store.version + 1)])

    def run_steps(self, many):
        steps = (self.step_transaction,) * 8 + (
            self.step_table, self.step_require, self.step_keep, self.step_told, self.step_told, self.step_reasons,
            self.step_pin, self.step_forget, self.step_crash, self.step_recover, self.step_replica, self.step_messages,
            self.step_messages, self.step_asked, self.step_asked)
        for _ in range(many):
            step = self.numbers.one_of(steps)
            try:
                step()
            except Crashed:
                self.assertIs(True, self.disk.has_crashed)
                self.recover(self.numbers.below(2))
                step = self.step_crash
                self.count["crashed"] = self.count.get("crashed", 0) + 1
            self.count[step.__name__] = self.count.get(step.__name__, 0) + 1
            self.assertEqual(self.slow.version, self.store.version)
            self.assertEqual(list(self.slow.constraints), self.store.constraints())
            self.assertEqual(list(self.slow.model.forms), self.store.tables())

    # What changes the store.

    def step_transaction(self):
        if len(self.pairs) < 4 and self.numbers.below(4) == 0:
            self.pairs.append((self.store.begin(), self.slow.begin()))
        elif self.pairs:
            pair = self.numbers.one_of(self.pairs)
            if self.numbers.below(5):
                self.act(self.numbers, *pair)
                return
            self.pairs.remove(pair)
            try:
                word = self.end(self.numbers, *pair)
            except Crashed:
                # The slow store does not crash.
                self.slow.model.versions.pop()
                self.assertIs(False, pair[0].is_open)
                raise
            self.count[word] = self.count.get(word, 0) + 1

    def step_table(self):
        if "t" not in self.slow.model.forms and self.numbers.below(3) == 0:
            self.table("t", 1)

    def step_require(self):
        name, text = self.numbers.one_of(self.CONSTRAINTS)
        query = Query.read(text)
        if name in self.slow.constraints:
            self.must_raise(NameTaken, {"name": name}, self.store.require, name, query)
        elif "t" in self.slow.model.forms or name != "all":
            answer = answer_at(self.slow.model, self.rows(-1), query)
            if answer:
                self.must_raise(NotEmpty, {"point": answer[0]}, self.store.require, name, query)
            else:
                self.store.require(name, query)
                self.slow.require(name, query)
                self.since[name] = self.slow.version

    def step_crash(self):
        if self.numbers.below(2):
            self.disk.crash_after(self.numbers.below(6))

    def step_recover(self):
        if self.numbers.below(8) == 0:
            self.recover(True)

    def recover(self, restarted):
        self.disk = self.disk.restarted() if restarted else self.disk
        crashed = self.disk.has_crashed
        self.store = DurableStore.recovered(self.disk)
        self.assertEqual(([], {}, 0), (self.store.keeper.names(), self.store.pins(), self.store.oldest))
        for version in range(self.slow.version + 1):
            self.assert_rows(version)
        if crashed:
            self.disk = self.disk.restarted()
            self.store = DurableStore.recovered(self.disk)
        self.pairs, self.views, self.pins = [], {}, {}

    def assert_rows(self, version):
        snapshot = self.store.snapshot(version)
        for table in self.slow.model.forms:
            for key in self.slow.model.all_keys(table):
                self.assertEqual(self.rows(version).get((table, key)), snapshot.payload(table, key))

    # What is kept.

    def step_keep(self):
        keeper = self.store.keeper
        name = self.numbers.one_of("abcdef")
        if name in keeper:
            keeper.release(name)
            self.views.pop(name, None)
            return
        query = self.some_query()
        if self.numbers.below(2):
            keeper.keep(name, query)
            return
        by = query.variables[:self.numbers.below(2)]
        what, of = ("sum", 0) if query.literals()[0][0] == "row" else ("count", None)
        self.views[name] = View(keeper, name, query, by, what, of), (query, by, what, of)

    def step_told(self):
        keeper, version = self.store.keeper, self.some_version()
        if not keeper.names():
            return
        name = self.numbers.one_of(keeper.names())
        rows = self.rows(-1 if version is None else version)
        self.assertEqual(answer_at(self.slow.model, rows, keeper.kept_query(name)), keeper.answer(name, version))
        paper, at = keeper.kept_paper(name), keeper.version_of(name)
        if at >= self.store.oldest:
            self.assertIs(True, accepts(self.store.snapshot(at), paper.query, paper.points(), paper))
        if name in self.views:
            view, grouping = self.views[name]
            before = groups_at(self.slow.model, rows, *grouping)
            now = groups_at(self.slow.model, self.rows(-1), *grouping)
            self.assertEqual(list(before.items()), list(view.results(version).items()))
            expected = (sorted(set(now) - set(before)), sorted(set(before) - set(now)),
                        sorted(one for one in now if one in before and now[one] != before[one]))
            self.assertEqual(expected, view.difference(version))

    def step_reasons(self):
        keeper = self.store.keeper
        for name in keeper.names()[:1]:
            keeper.catch_up(name)
            paper = keeper.kept_paper(name)
            for point in paper.closing.each_point():
                if point in paper.points():
                    self.assertEqual(why(paper, point), why(paper, point))
                else:
                    line, position = why_not(paper, point)
                    self.assertTrue(paper.box(line).holds(point))
        # Writes to tables that this model knows, and what they would change.
        writes = some_writes(self.numbers, self.slow.model, 3)
        after = self.rows(-1)
        for one in writes:
            after = performed(after, one)[0]
        expected = []
        for name in keeper.names():
            before, then = (set(answer_at(self.slow.model, rows, keeper.kept_query(name)))
                            for rows in (self.rows(-1), after))
            if before != then:
                expected.append((name, sorted(before - then), sorted(then - before)))
        self.assertEqual(expected, what_if(keeper, writes))

    # What holds versions.

    def step_pin(self):
        name = self.numbers.one_of("pq")
        if name in self.pins:
            self.store.unpin(name)
            del self.pins[name]
            return
        version = self.some_version()
        self.store.pin(name, version)
        self.pins[name] = self.store.version if version is None else version
        self.assertEqual(sorted(self.pins.items()), list(self.store.pins().items()))

    def step_forget(self):
        version = self.numbers.below(self.store.version + 1)
        held = list(self.pins.values()) + [transaction.version for transaction, _ in self.pairs]
        if version < self.store.oldest:
            self.must_raise(TooOld, {"least": self.store.oldest}, self.store.forget, version)
        elif min(held, default=version) < version:
            self.must_raise(Held, {"earliest": min(held)}, self.store.forget, version)
        elif self.numbers.below(2) == 0:
            self.store.forget(version)
            self.assertEqual(version, self.store.oldest)

    # What is replicated.

    def step_replica(self):
        if len(self.replicas) == 3:
            self.replicas.pop(self.numbers.below(3))
        replica = Replica(self.store)
        self.assertEqual((self.store.version,) * 2, (replica.first, replica.heard))
        self.replicas.append(replica)

    def step_messages(self):
        """Some stretches, not always in their sequence; those of forgotten versions cannot be told any more."""
        for replica in self.replicas:
            missing = [version for version in range(replica.heard + 1, self.store.version + 1)
                       if version > self.store.oldest]
            for _ in range(2):
                if missing:
                    version = missing[self.numbers.below(len(missing))]
                    replica.receive(stretch_of(self.store, version, self.numbers.below(4)))
                    replica.receive(stretch_of(self.store, missing[0], self.numbers.below(4)))

    def step_asked(self):
        if not self.replicas:
            return
        replica, query = self.numbers.one_of(self.replicas), self.some_query()
        version = self.numbers.one_of([None, *range(replica.first, replica.heard + 1)])
        meant = replica.heard if version is None else version
        for _ in range(200):
            try:
                answer = replica.ask(query, version)
            except Needs as needs:
                if meant < self.store.oldest:
                    self.must_raise(TooOld, {"least": self.store.oldest}, reply, self.store, needs.request)
                    self.count["too old"] = self.count.get("too old", 0) + 1
                    return
                for message in reply(self.store, needs.request):
                    replica.receive(message)
                continue
            self.assertEqual(answer_at(self.slow.model, self.rows(meant), query), answer)
            self.count["replicated"] = self.count.get("replicated", 0) + 1
            return
        self.fail("the requests do not lead to an answer")


class MixedTest(History):

    def test_mixed(self):
        total = {}
        for seed in range(24):
            self.begin(seed)
            self.run_steps(500)
            for version in range(self.slow.version + 1):
                if version >= self.store.oldest:
                    self.assert_rows(version)
            for name, many in self.count.items():
                total[name] = total.get(name, 0) + many
        for name in ("version", "changed", "violated", "abandoned", "crashed", "replicated", "step_told"):
            self.assertGreater(total.get(name, 0), 10, total)

    def test_no_constraint_is_ever_violated(self):
        for seed in range(20, 24):
            self.begin(seed)
            self.run_steps(200)
            for name, query in self.slow.constraints.items():
                for version in range(max(self.since[name], self.store.oldest), self.store.version + 1):
                    self.assertEqual([], plain_answer(self.store.snapshot(version), query))


class LongTest(unittest.TestCase):

    def test_many_versions(self):
        """Many commits, of which a keeper, a replica and a recovered store all tell the same."""
        numbers, disk = Numbers(99), Disk()
        store = DurableStore(3, disk)
        store.add_table("r", 2, (1, 0))
        store.add_table("s", 1)
        store.require("own", Query.read("r(x,x), not s(x)"))
        query = Query.read("r(x,y), not s(y)")
        store.keeper.keep("a", query)
        replica, slow = Replica(store), {}
        for _ in range(120):
            key = (numbers.below(8), numbers.below(8))
            if key in slow:
                change(store, ("delete", "r", key))
                del slow[key]
            elif key[0] != key[1]:
                change(store, ("insert", "r", key, 0))
                slow[key] = True
        for version in range(1, store.version + 1):
            replica.receive(stretch_of(store, version, 2))
        self.assertEqual((store.version, True), (replica.heard, store.version > 60))
        recovered = DurableStore.recovered(disk.restarted())
        recovered.keeper.keep("a", query)
        for version in (0, 1, store.version // 2, store.version):
            answer = plain_answer(store.snapshot(version), query)
            self.assertEqual([answer] * 2, [one.keeper.answer("a", version) for one in (store, recovered)])
            while True:
                try:
                    self.assertEqual(answer, replica.ask(query, version))
                    break
                except Needs as needs:
                    for message in reply(recovered, needs.request):
                        replica.receive(message)
        self.assertEqual(sorted(slow), replica.ask(query))


if __name__ == "__main__":
    unittest.main()
