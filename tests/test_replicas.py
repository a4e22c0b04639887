"""Points [45] and [46]: stretches, what replicas know and for how long, requests, replies and answers."""

import unittest

from coverstore.boxes import Box
from coverstore.errors import InvalidCount, InvalidMessage, InvalidValue, Needs, TooOld, UnknownTable, UnknownVersion
from coverstore.errors import WrongColumns
from coverstore.queries import Query
from coverstore.replicas import Replica, reply, stretch_of
from coverstore.stores import Store

from helpers import NOT_INTEGERS, NOT_NAMES, NOT_TUPLES, EqualsAll, Numbers, Raises, all_points, digits_of
from model import FORMS, Model, some_writes
from pairs import change
from slow import plain

TEXTS = ("r(x,y), not s(y)", "r(x,y), r(y,x)", "not r(x,x), s(x), x != 2", "t(x,y,x), x < y by y,x", "not s(1), r(2,3)",
         "x < y, y != 3", "s(x), not s(y), y < x", "not r(1,2), r(2,2)", "not s(x)", "s(x), 0 <= y")


def small_store():
    """At the versions 1 to 4: r(1,2), s(3) come; r(2,2) comes, s(3) goes; r(1,2) gets a payload; r(3,0) comes."""
    store = Store(3)
    store.add_table("r", 2, (1, 0))
    store.add_table("s", 1)
    change(store, ("insert", "s", (3,), 0), ("insert", "r", (1, 2), 5))
    change(store, ("delete", "s", (3,)), ("insert", "r", (2, 2), 6))
    change(store, ("update", "r", (1, 2), 7))
    change(store, ("insert", "r", (3, 0), 8))
    return store


def filled(numbers, commits, bits=2, many=4):
    """A store and a model with the tables of FORMS and the same versions."""
    store, model = Store(bits), Model(bits)
    for name, orders in FORMS.items():
        for one in (store, model):
            one.add_table(name, len(orders[0]), *orders[1:])
    for _ in range(commits):
        commit_to_both(numbers, store, model, many)
    return store, model


def commit_to_both(numbers, store, model, many):
    writes = some_writes(numbers, model, 1 + numbers.below(many))
    assert model.commit(writes) is None
    assert change(store, *writes) == len(model.versions) - 1


class StretchTest(unittest.TestCase, Raises):

    def test_each_number_of_digits(self):
        store = small_store()
        parts = {0: ("*,*", "*"), 1: ("0,0", "0"), 2: ("01,01", "01"), 3: ("010,010", "011")}
        for digits in range(11):
            r, s = parts[min(digits, 3)]
            expected = ("stretch", 2, (("r", Box.read(3, r)), ("s", Box.read(3, s))))
            self.assertEqual(expected, stretch_of(store, 2, digits))
        self.assertEqual(("stretch", 3, (("r", Box(3, ["00", "01"])),)), stretch_of(store=store, version=3, digits=2))

    def test_the_sequence_of_the_changed_keys(self):
        store = Store(2)
        for name in ("b", "a"):
            store.add_table(name, 1)
        change(store, ("insert", "a", (3,), 0), ("insert", "a", (1,), 0), ("insert", "b", (2,), 0),
               ("insert", "b", (0,), 0), ("insert", "b", (1,), 0), ("delete", "b", (1,)))
        expected = [("b", Box(2, ["00"])), ("b", Box(2, ["10"])), ("a", Box(2, ["01"])), ("a", Box(2, ["11"]))]
        self.assertEqual(("stretch", 1, tuple(expected)), stretch_of(store, 1, 2))
        # One for each changed key, also where their boxes are equal.
        self.assertEqual(("stretch", 1, tuple((name, Box(2, [""])) for name in "bbaa")), stretch_of(store, 1, 0))

    def test_no_changed_keys(self):
        store = small_store()
        change(store, ("insert", "s", (0,), 0), ("delete", "s", (0,)))
        self.assertEqual(("stretch", 5, ()), stretch_of(store, 5, 3))

    def test_versions(self):
        store = small_store()
        for version in (0, 5, -1, 2 ** 70, EqualsAll()) + NOT_INTEGERS:
            for digits in (3, -1):
                self.must_raise(UnknownVersion, {"value": version}, stretch_of, store, version, digits)
        store.forget(2)
        for version in (1, 2):
            for digits in (3, None):
                self.must_raise(TooOld, {"least": 2}, stretch_of, store, version, digits)
        for version in (0, 5, None, False):
            self.must_raise(UnknownVersion, {"value": version}, stretch_of, store, version, 3)
        self.assertEqual(1, len(stretch_of(store, 3, 3)[2]))

    def test_digits(self):
        store = small_store()
        for digits in (-1, 11, 2 ** 70, EqualsAll()) + NOT_INTEGERS:
            self.must_raise(InvalidCount, {"value": digits}, stretch_of, store, 2, digits)

    def test_compared(self):
        numbers = Numbers(45)
        store, model = filled(numbers, 8)
        for version in range(1, 9):
            for digits in range(4):
                parts = [(table, Box(2, [digits_of(value, 2)[:digits] for value in key]))
                         for table, key in model.changed_keys(version)]
                self.assertEqual(("stretch", version, tuple(parts)), stretch_of(store, version, digits))


class ReplyTest(unittest.TestCase, Raises):

    def test_present_keys(self):
        store = small_store()
        self.assertEqual([("present", "r", (1, 2), 1, 4)], reply(store, ("look", "r", (1, 2), 1)))
        self.assertEqual([("present", "r", (1, 2), 3, 4)], reply(store=store, request=("look", "r", (1, 2), 3)))
        self.assertEqual([("present", "s", (3,), 1, 1)], reply(store, ("look", "s", (3,), 1)))
        self.assertEqual([("present", "r", (3, 0), 4, 4)], reply(store, ("look", "r", (3, 0), 4)))

    def test_absent_keys(self):
        store = small_store()
        self.assertEqual([("clear", "r", Box(3, ["", ""]), 0, 0)] * 2, reply(store, ("look", "r", (1, 2), 0)))
        self.assertEqual([("clear", "s", Box(3, ["00"]), 1, 4)], reply(store, ("look", "s", (0,), 1)))
        # Each gap has a break of its own.
        self.assertEqual([("clear", "r", Box(3, ["001", "1"]), 1, 4), ("clear", "r", Box(3, ["", "1"]), 1, 4)],
                         reply(store, ("look", "r", (1, 7), 1)))
        self.assertEqual([("clear", "r", Box(3, ["01", ""]), 1, 1), ("clear", "r", Box(3, ["", "00"]), 1, 3)],
                         reply(store, ("look", "r", (2, 0), 1)))

    def test_compared(self):
        numbers = Numbers(46)
        store, model = filled(numbers, 6)
        for version in range(7):
            snapshot = store.snapshot(version)
            for table, orders in FORMS.items():
                for key in model.all_keys(table):
                    if model.payload(table, key, version) is not None:
                        since = model.presence_break(table, key, version)
                        expected = [("present", table, key, version, 6 if since is None else since - 1)]
                    else:
                        gaps = [model.gap(table, key, number, version) for number in range(len(orders))]
                        breaks = [model.clear_break(table, gap, version) for gap in gaps]
                        expected = [("clear", table, gap, version, 6 if since is None else since - 1)
                                    for gap, since in zip(gaps, breaks)]
                        self.assertEqual(gaps, snapshot.gaps(table, key))
                    found = reply(store, ("look", table, key, version))
                    self.assertEqual((list, expected), (type(found), found))

    def test_no_requests(self):
        store = small_store()
        good = ("look", "s", (3,), 1)
        wrong = [good[:at] + (value,) + good[at + 1:] for at, values in (
            (0, ("Look", "present", "", None, EqualsAll(), 1, ["look"])),
            (1, ("u", "S", EqualsAll(), ["s"]) + NOT_NAMES),
            (2, ((), (8,), (-1,), (True,), (3, 3), (None,), EqualsAll(), (EqualsAll(),)) + NOT_TUPLES),
            (3, (-1, EqualsAll()) + NOT_INTEGERS)) for value in values]
        for request in wrong + [good[:3], good + (1,), list(good), (), EqualsAll(), (good,), "look"] + list(NOT_TUPLES):
            self.must_raise(InvalidMessage, {"value": request}, reply, store, request)
        self.assertEqual([("present", "s", (3,), 1, 1)], reply(store, good))

    def test_versions(self):
        store = small_store()
        for version in (5, 2 ** 70):
            self.must_raise(UnknownVersion, {"value": version}, reply, store, ("look", "s", (3,), version))
        store.forget(2)
        for version in (0, 1):
            self.must_raise(TooOld, {"least": 2}, reply, store, ("look", "s", (3,), version))
        self.must_raise(InvalidMessage, {"value": ("look", "s", (8,), 0)}, reply, store, ("look", "s", (8,), 0))
        self.assertEqual([("clear", "s", Box(3, [""]), 2, 4)], reply(store, ("look", "s", (3,), 2)))

    def test_tables_that_are_added_later(self):
        store = small_store()
        store.add_table("t", 1)
        self.assertEqual([("clear", "t", Box(3, [""]), 0, 4)], reply(store, ("look", "t", (3,), 0)))


class HeardTest(unittest.TestCase, Raises):

    def test_a_new_replica(self):
        store = small_store()
        replica = Replica(store=store)
        self.assertEqual((4, 4), (replica.first, replica.heard))
        self.assertFalse(replica == Replica(store))
        self.assertEqual((0, 0), (Replica(Store(1)).first, Replica(Store(1)).heard))

    def test_stretches_in_every_sequence(self):
        store = small_store()
        replica = Replica(store)
        for value in range(6):
            change(store, ("insert", "s", (value,), 0))
        expected = {7: 4, 5: 5, 9: 5, 6: 7, 8: 9, 10: 10}
        for version, heard in expected.items():
            for _ in range(2):
                self.assertIsNone(replica.receive(message=stretch_of(store, version, 3)))
                self.assertEqual((4, heard), (replica.first, replica.heard))

    def test_versions_up_to_the_first_one(self):
        store = small_store()
        replica = Replica(store)
        for version in (1, 2, 3, 4):
            replica.receive(stretch_of(store, version, 0))
        replica.receive(("stretch", 0, ()))
        self.assertEqual((4, 4), (replica.first, replica.heard))
        replica.receive(("stretch", 5, ()))
        self.assertEqual((4, 5), (replica.first, replica.heard))

    def test_facts_are_no_stretches(self):
        store = small_store()
        replica = Replica(store)
        replica.receive(("present", "s", (3,), 4, 9))
        replica.receive(("clear", "s", Box(3, ["0"]), 5, 9))
        self.assertEqual(4, replica.heard)

    def test_versions_to_ask_for(self):
        store = small_store()
        replica = Replica(store)
        change(store, ("insert", "s", (0,), 0))
        change(store, ("insert", "s", (1,), 0))
        query = Query.read("u(x)")
        for version in (3, 5, 0, -1, 2 ** 70, EqualsAll()) + tuple(one for one in NOT_INTEGERS if one is not None):
            self.must_raise(UnknownVersion, {"value": version}, replica.ask, query, version)
        replica.receive(stretch_of(store, 5, 3))
        self.must_raise(UnknownTable, {"value": "u"}, replica.ask, query, 5)
        for version in (3, 6, True):
            self.must_raise(UnknownVersion, {"value": version}, replica.ask, query, version)
        for version in (None, 4, 5):
            self.must_raise(UnknownTable, {"value": "u"}, replica.ask, query, version)

    def test_queries_that_do_not_fit(self):
        store = small_store()
        replica = Replica(store)
        store.add_table("t", 1)
        for text, kind, told in (("u(x)", UnknownTable, {"value": "u"}), ("t(x)", UnknownTable, {"value": "t"}),
                                 ("r(x)", WrongColumns, {"position": 0}), ("s(x,y)", WrongColumns, {"position": 0}),
                                 ("s(x), x < 8", InvalidValue, {"value": 8}), ("s(8)", InvalidValue, {"value": 8}),
                                 ("s(x), r(x), u(x)", WrongColumns, {"position": 1}),
                                 ("x < 8, u(x)", InvalidValue, {"value": 8})):
            self.must_raise(kind, told, replica.ask, Query.read(text))
        self.must_raise(Needs, {"request": ("look", "s", (7,), 4)}, replica.ask, Query.read("s(7)"))


class MessagesTest(unittest.TestCase, Raises):

    def test_no_messages(self):
        replica = Replica(small_store())
        box = Box(3, ["0", "1"])
        versions = (-1, EqualsAll()) + NOT_INTEGERS
        tables = ("R", EqualsAll(), ["r"]) + NOT_NAMES
        boxes = (Box(3, ["0"]), Box(3), Box(2, ["0", "1"]), Box(3, ["0", "1", ""]), "0,1", None, (1, 2), EqualsAll())
        keys = ((1,), (1, 2, 3), (8, 1), (True, 1), (1, False), (-1, 0), EqualsAll(), (EqualsAll(), 1)) + NOT_TUPLES
        good = [
            (("stretch", 5, (("r", box), ("s", Box(3, [""])))), {1: versions, 2: NOT_TUPLES + (
                [("r", box)], EqualsAll(), (EqualsAll(),), (("r", box, 1),), (("r",),), ((),), (["r", box],), (None,),
                (("r", box), ("s", box)), "r") + tuple((("r", box), (table, box)) for table in tables)
                + tuple((("r", one),) for one in boxes)}),
            (("present", "r", (1, 2), 4, 4), {1: tables, 2: keys, 3: versions + (5,), 4: versions + (3,)}),
            (("clear", "r", box, 4, 4), {1: tables, 2: boxes, 3: versions + (5,), 4: versions + (3,)}),
        ]
        for message, others in good:
            wrong = [message[:at] + (value,) + message[at + 1:] for at, values in others.items() for value in values]
            wrong += [message[:-1], message + (4,), list(message), (message,)]
            wrong += [(word,) + message[1:] for word in ("look", "Clear", "", None, 1, EqualsAll(), ["clear"])]
            for value in wrong:
                self.must_raise(InvalidMessage, {"value": value}, replica.receive, value)
        for value in NOT_TUPLES + (EqualsAll(), ("look", "r", (1, 2), 4), ("stretch",), ("present",)):
            self.must_raise(InvalidMessage, {"value": value}, replica.receive, value)
        self.assertEqual(4, replica.heard)
        for message, _ in good:
            self.assertIsNone(replica.receive(message))
        self.assertEqual(5, replica.heard)

    def test_tables_that_are_not_known(self):
        store = small_store()
        replica = Replica(store)
        store.add_table("t", 3)
        change(store, ("insert", "t", (1, 2, 3), 0))
        replica.receive(stretch_of(store, 5, 2))
        for message in (("present", "t", (1, 2, 3), 5, 5), ("present", "u", (1,), 0, 5),
                        ("present", "u", (1,) * 4, 0, 5), ("clear", "t", Box(3, [""] * 3), 0, 4),
                        ("clear", "u", Box(3), 0, 4),
                        ("clear", "u", Box(3, [""] * 5), 0, 4), ("stretch", 6, (("t", Box(3)), ("u", Box(3, ["1"]))))):
            self.assertIsNone(replica.receive(message))
        self.assertEqual(6, replica.heard)
        self.must_raise(UnknownTable, {"value": "t"}, replica.ask, Query.read("t(1,2,3)"))
        for message in (("present", "u", (), 0, 5), ("present", "u", (1,) * 5, 0, 5), ("present", "u", (8,), 0, 5),
                        ("clear", "u", Box(2, [""]), 0, 5)):
            self.must_raise(InvalidMessage, {"value": message}, replica.receive, message)

    def test_is_apart_from_its_store(self):
        store = small_store()
        replica = Replica(store)
        for message in reply(store, ("look", "s", (3,), 4)):
            replica.receive(message)
        change(store, ("insert", "s", (3,), 0))
        store.forget(5)
        self.assertEqual([], replica.ask(Query.read("s(x)")))
        self.assertEqual((4, 4), (replica.first, replica.heard))


class KnownTest(unittest.TestCase, Raises):
    """What is known of a key is seen by queries of one literal without variables."""

    def known(self, replica, table, key, version=None):
        """True if the key is known to be present, False if it is known to be absent, None if neither."""
        text = ",".join(str(value) for value in key)
        found = []
        for literal, there in ((f"{table}({text})", [()]), (f"not {table}({text})", [])):
            try:
                found.append(replica.ask(Query.read(literal), version) == there)
            except Needs as needs:
                meant = replica.heard if version is None else version
                self.assertEqual(("look", table, key, meant), needs.request)
                found.append(None)
        self.assertIs(found[0], found[1])
        return found[0]

    def test_facts_at_their_versions(self):
        replica = Replica(small_store())
        for version in (5, 6, 7, 8):
            replica.receive(("stretch", version, (("s", Box(3, [""])), ("r", Box(3, ["", ""])))))
        replica.receive(("present", "s", (1,), 5, 6))
        replica.receive(("clear", "r", Box(3, ["0", "1"]), 0, 4))
        self.assertEqual([None, True, True, None, None], [self.known(replica, "s", (1,), at) for at in range(4, 9)])
        self.assertEqual([None] * 5, [self.known(replica, "s", (0,), at) for at in range(4, 9)])
        self.assertEqual([False, None, None, None, None],
                         [self.known(replica, "r", (3, 4), at) for at in range(4, 9)])
        self.assertEqual([None] * 4, [self.known(replica, "r", key, 4) for key in ((4, 4), (3, 3), (4, 3), (7, 0))])

    def test_facts_last_as_long_as_no_part_meets_them(self):
        for first in (True, False):
            replica = Replica(small_store())
            facts = [("present", "r", (1, 2), 4, 4), ("clear", "r", Box(3, ["1", "0"]), 2, 5)]
            stretches = [("stretch", 5, (("s", Box(3, [""])), ("r", Box(3, ["01", ""])))),
                         ("stretch", 6, (("r", Box(3, ["000", "01"])), ("r", Box(3, ["1", "1"])))),
                         ("stretch", 7, (("r", Box(3, ["", "011"])),)),
                         ("stretch", 8, (("r", Box(3, ["001", "0"])),)), ("stretch", 9, ())]
            for message in facts + stretches if first else stretches[::-1] + facts:
                replica.receive(message)
            self.assertEqual([True, True, True, True, None, None],
                             [self.known(replica, "r", (1, 2), at) for at in range(4, 10)])
            self.assertEqual([False, False, False, None, None, None],
                             [self.known(replica, "r", (5, 1), at) for at in range(4, 10)])

    def test_what_ended_is_known_again_from_a_later_fact_on(self):
        replica = Replica(small_store())
        replica.receive(("present", "s", (1,), 4, 4))
        for version in (5, 6, 7):
            replica.receive(("stretch", version, (("s", Box(3, ["001" if version == 5 else "1"])),)))
        self.assertEqual([True, None, None, None], [self.known(replica, "s", (1,), at) for at in range(4, 8)])
        replica.receive(("clear", "s", Box(3, ["00"]), 6, 6))
        self.assertEqual([True, None, False, False], [self.known(replica, "s", (1,), at) for at in range(4, 8)])
        replica.receive(("present", "s", (1,), 4, 4))
        self.assertEqual([True, None, False, False], [self.known(replica, "s", (1,), at) for at in range(4, 8)])

    def test_facts_about_versions_that_were_not_heard_yet(self):
        replica = Replica(small_store())
        replica.receive(("present", "s", (1,), 6, 7))
        for version, heard, known in ((5, 5, [None, None]), (7, 5, [None, None]), (6, 7, [None, None, True, True]),
                                      (8, 8, [None, None, True, True, True])):
            replica.receive(("stretch", version, ()))
            self.assertEqual(heard, replica.heard)
            self.assertEqual(known, [self.known(replica, "s", (1,), at) for at in range(4, heard + 1)])

    def test_facts_of_earlier_versions_than_the_first(self):
        replica = Replica(small_store())
        for version in (5, 6):
            replica.receive(("stretch", version, ()))
        # Below the first version nothing tells how long a fact lasts.
        replica.receive(("present", "s", (1,), 1, 3))
        self.assertEqual([None] * 3, [self.known(replica, "s", (1,), at) for at in (4, 5, 6)])
        replica.receive(("present", "s", (1,), 2, 4))
        self.assertEqual([True] * 3, [self.known(replica, "s", (1,), at) for at in (4, 5, 6)])

    def test_the_first_stretch_of_a_version_counts(self):
        replica = Replica(small_store())
        replica.receive(("present", "s", (1,), 4, 4))
        replica.receive(("stretch", 6, (("s", Box(3, ["1"])),)))
        replica.receive(("stretch", 6, (("s", Box(3, [""])),)))
        replica.receive(("stretch", 5, (("s", Box(3, ["1"])),)))
        replica.receive(("stretch", 5, (("s", Box(3, [""])),)))
        self.assertEqual([True] * 3, [self.known(replica, "s", (1,), at) for at in (4, 5, 6)])

    def test_other_tables_do_not_end_a_fact(self):
        store = Store(2)
        store.add_table("a", 2)
        store.add_table("b", 2)
        replica = Replica(store)
        replica.receive(("present", "a", (1, 1), 0, 0))
        replica.receive(("stretch", 1, (("b", Box(2, ["", ""])), ("c", Box(2, ["", ""])), ("c", Box(2)))))
        self.assertEqual((True, None), (self.known(replica, "a", (1, 1)), self.known(replica, "b", (1, 1))))

    def test_compared(self):
        """Messages in every sequence; all that is known is compared with the document's words."""
        for seed in range(6):
            numbers = Numbers(seed + 450)
            store, model = filled(numbers, 3, 1 + seed % 2, 3)
            replica = Replica(store)
            for _ in range(5):
                commit_to_both(numbers, store, model, 3)
            stretches, facts, messages = {}, [], [stretch_of(store, at, numbers.below(3)) for at in range(1, 9)]
            for _ in range(30):
                table = numbers.one_of(sorted(FORMS))
                request = ("look", table, numbers.one_of(model.all_keys(table)), numbers.below(9))
                messages.extend(reply(store, request))
            while messages:
                message = messages.pop(numbers.below(len(messages)))
                for _ in range(1 + numbers.below(2)):
                    replica.receive(message)
                if message[0] == "stretch":
                    stretches[message[1]] = message[2]
                else:
                    facts.append(message)
                heard = 3
                while heard + 1 in stretches:
                    heard += 1
                self.assertEqual(heard, replica.heard)
                if numbers.below(4) == 0 or not messages:
                    self.compare(model, replica, stretches, facts)

    def compare(self, model, replica, stretches, facts):
        known = {}
        for word, table, part, first, last in facts:
            box = Box.at(model.bits, *part) if word == "present" else part
            versions = set(range(first, last + 1))
            for version in range(replica.first, replica.heard):
                parts = [other for named, other in stretches[version + 1] if named == table]
                if version in versions and not any(other.meets(box) for other in parts):
                    versions.add(version + 1)
            for key in model.all_keys(table):
                if box.holds(key):
                    for version in versions:
                        known[table, key, version] = word == "present"
        for table in FORMS:
            keys = model.all_keys(table)
            for key in keys[::len(keys) // 20 + 1]:
                for version in range(replica.first, replica.heard + 1):
                    expected = known.get((table, key, version))
                    self.assertIs(expected, self.known(replica, table, key, version))
                    if expected is not None:
                        self.assertIs(expected, model.payload(table, key, version) is not None)


class AnswersTest(unittest.TestCase, Raises):

    def answer(self, store, replica, query, version=None):
        """The answer, after as many requests and replies as are needed, and the number of requests."""
        requests = []
        while True:
            try:
                return replica.ask(query, version), len(requests)
            except Needs as needs:
                word, table, key, at = needs.request
                self.assertEqual(("look", replica.heard if version is None else version), (word, at))
                self.assertNotIn(needs.request, requests)
                self.assert_made(query, table, key)
                requests.append(needs.request)
                for message in reply(store, needs.request):
                    replica.receive(message)

    def assert_made(self, query, table, key):
        """Some literal of the query makes this key at some point."""
        fits = [
            literal for literal in query.literals() if literal[0] in ("row", "none") and literal[1] == table
            and all(term == value or isinstance(term, str) for term, value in zip(literal[2], key))
            and all(one != other or key[at] == key[place] for at, one in enumerate(literal[2])
                    for place, other in enumerate(literal[2]))]
        self.assertTrue(fits)

    def test_without_rows(self):
        replica = Replica(small_store())
        self.assertEqual([(0, 1), (1, 0)], replica.ask(query=Query.read("x != y, x < 2, y < 2")))
        self.assertEqual([], replica.ask(Query.read("x < x"), version=4))

    def test_requests_until_the_answer(self):
        store = small_store()
        replica = Replica(store)
        query = Query.read("r(x,y), not s(x)")
        self.assertEqual([(1, 2), (2, 2), (3, 0)], self.answer(store, replica, query)[0])
        self.assertEqual(([(1, 2), (2, 2), (3, 0)], 0), self.answer(store, replica, query))
        change(store, ("insert", "s", (3,), 0))
        self.assertEqual(([(1, 2), (2, 2), (3, 0)], 0), self.answer(store, replica, query))
        replica.receive(stretch_of(store, 5, 3))
        self.assertEqual([(1, 2), (2, 2)], self.answer(store, replica, query)[0])
        self.assertEqual(([(1, 2), (2, 2), (3, 0)], 0), self.answer(store, replica, query, 4))

    def test_answers_are_new_lists(self):
        store = small_store()
        replica = Replica(store)
        query = Query.read("r(x,y)")
        self.answer(store, replica, query)[0].clear()
        answer = replica.ask(query)
        self.assertEqual((list, [(1, 2), (2, 2), (3, 0)]), (type(answer), answer))

    def test_several_queries_in_turn(self):
        store = small_store()
        replica = Replica(store)
        change(store, ("insert", "s", (3,), 0), ("delete", "r", (1, 2)))
        replica.receive(stretch_of(store, 5, 3))
        rows = {4: [(1, 2), (2, 2), (3, 0)], 5: [(2, 2), (3, 0)]}
        open_ones = [(text, at) for text in ("r(x,y)", "r(x,y) by y,x", "r(y,x)", "not s(3), r(x,y)") for at in (4, 5)]
        found = {}
        while open_ones:
            text, at = open_ones.pop(0)
            try:
                found[text, at] = replica.ask(Query.read(text), at)
            except Needs as needs:
                for message in reply(store, needs.request):
                    replica.receive(message)
                open_ones.append((text, at))
        for at in (4, 5):
            self.assertEqual(rows[at], found["r(x,y)", at])
            self.assertEqual(sorted((y, x) for x, y in rows[at]), found["r(x,y) by y,x", at])
            # The variables of this one stand in the order of their first occurrence, y before x.
            self.assertEqual(rows[at], found["r(y,x)", at])
            self.assertEqual(rows[at] if at == 4 else [], found["not s(3), r(x,y)", at])

    def test_what_is_known_of_every_key(self):
        replica = Replica(small_store())
        present = [(1, 2), (2, 2), (3, 0)]
        for key in all_points(3, 2):
            message = ("present", "r", key) if key in present else ("clear", "r", Box.at(3, *key))
            replica.receive(message + (4, 4))
        # No gap of the store was told, but it is known of every key whether it is present.
        self.assertEqual(present, replica.ask(Query.read("r(x,y)")))
        self.assertEqual([(2,)], replica.ask(Query.read("r(x,x), not r(x,3)")))

    def test_whether_a_key_is_known(self):
        store = small_store()
        for text, key in (("r(1,2)", (1, 2)), ("not r(1,2)", (1, 2)), ("r(7,7)", (7, 7)), ("not r(7,7)", (7, 7))):
            replica = Replica(store)
            query = Query.read(text)
            self.must_raise(Needs, {"request": ("look", "r", key, 4)}, replica.ask, query)
            self.assertEqual(1, self.answer(store, replica, query)[1])

    def test_a_version_that_the_store_has_forgotten(self):
        store = small_store()
        replica = Replica(store)
        change(store, ("insert", "s", (3,), 0))
        replica.receive(stretch_of(store, 5, 3))
        store.forget(5)
        query = Query.read("s(x)")
        self.must_raise(Needs, {"request": ("look", "s", (0,), 4)}, replica.ask, query, 4)
        self.must_raise(TooOld, {"least": 5}, reply, store, ("look", "s", (0,), 4))
        self.assertEqual([(3,)], self.answer(store, replica, query)[0])
        self.must_raise(Needs, {"request": ("look", "s", (3,), 4)}, replica.ask, Query.read("s(3)"), 4)

    def test_compared(self):
        """Each query at every version, for each number of digits."""
        for digits in (0, 1, 2, 3, 10):
            numbers = Numbers(460 + digits)
            store, model = filled(numbers, 3)
            replica, received = Replica(store), []
            for _ in range(8):
                commit_to_both(numbers, store, model, 3)
                received.append(store.version)
            while received:
                replica.receive(stretch_of(store, received.pop(numbers.below(len(received))), digits))
                for text in TEXTS:
                    if numbers.below(3):
                        continue
                    query = Query.read(text)
                    version = numbers.one_of(range(replica.first, replica.heard + 1))
                    self.assertEqual(plain(model, version, query), self.answer(store, replica, query, version)[0])
            for text in TEXTS:
                query = Query.read(text)
                for version in range(3, 12):
                    self.assertEqual(plain(model, version, query), self.answer(store, replica, query, version)[0])
                self.assertEqual(plain(model, 11, query), replica.ask(query))

    def test_few_requests_in_a_large_space(self):
        store = Store(10)
        store.add_table("r", 2, (1, 0))
        change(store, ("insert", "r", (1000, 3), 0), ("insert", "r", (5, 700), 0), ("insert", "r", (5, 6), 0))
        replica = Replica(store)
        answer, requests = self.answer(store, replica, Query.read("r(x,y)"))
        self.assertEqual([(5, 6), (5, 700), (1000, 3)], answer)
        self.assertLess(requests, 100)


if __name__ == "__main__":
    unittest.main()
