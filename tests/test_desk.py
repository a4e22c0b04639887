"""Point [47]: the commands of a desk, what they return, and their errors."""

import unittest

from coverstore.desk import Desk
from coverstore.errors import Changed, Ended, Held, InvalidBits, InvalidColumns, InvalidCommand, InvalidKey
from coverstore.errors import InvalidName, InvalidPayload, InvalidPoint, InvalidText, InvalidValue, KeyTaken, NameTaken
from coverstore.errors import NoSuchRow, NotEmpty, TooOld, UnknownName, UnknownTable, UnknownTransaction
from coverstore.errors import UnknownVersion, Violated, WrongColumns
from coverstore.queries import Query
from coverstore.reasons import why, why_not
from coverstore.stores import Store

from helpers import NOT_INTEGERS, NOT_STRINGS, EqualsAll, Raises, all_points


def said(desk, *commands):
    return [desk.say(command) for command in commands]


def small_desk():
    """Version 1 has r(0,1), r(0,2), r(2,2) and s(3); transaction 1 made it, transaction 2 is open."""
    desk = Desk(2)
    said(desk, "table r 2", "table s 1", "begin", "insert 1 r 0,1 5", "insert 1 r 0,2 6", "insert 1 r 2,2 -7",
         "insert 1 s 3 0", "commit 1", "begin", "keep all r(x,y)")
    return desk


class CommandsTest(unittest.TestCase, Raises):

    def test_a_new_desk(self):
        desk = Desk(bits=3)
        self.assertIs(Store, type(desk.store))
        self.assertIs(desk.store, desk.store)
        self.assertEqual((3, "0"), (desk.store.bits, desk.say(command="version")))
        self.assertIsNot(desk.store, Desk(3).store)
        self.assertFalse(desk == Desk(3))
        for bits in (0, 11, EqualsAll()) + NOT_INTEGERS:
            self.must_raise(InvalidBits, {"value": bits}, Desk, bits)

    def test_a_session(self):
        desk = Desk(3)
        for command, answer in (
                ("version", "0"), ("table likes 2", "ok"), ("table admin 1", "ok"), ("keep all likes(x,y)", "ok"),
                ("told all", "-"), ("begin", "1"), ("begin", "2"), ("insert 1 likes 1,2 10", "ok"),
                ("insert 1 likes 0,7 -1000000000", "ok"), ("insert 1 admin 4 0", "ok"),
                ("ask 1 likes(x,y)", "0,7 1,2"), ("ask 1 likes(x,y) by y,x", "2,1 7,0"), ("ask 2 likes(x,y)", "-"),
                ("ask 1 likes(1,2)", "()"), ("ask 1 not likes(1,2)", "-"), ("ask 1 not likes(1,3), admin(4)", "()"),
                ("ask 1 admin(x)", "4"), ("update 1 likes 1,2 11", "ok"), ("delete 1 admin 4", "ok"), ("commit 1", "1"),
                ("commit 2", "0"), ("version", "1"), ("told all", "0,7 1,2"), ("told all 0", "-"),
                ("told all 1", "0,7 1,2"), ("require self likes(x,x)", "ok"), ("begin", "3"), ("abandon 3", "ok"),
                ("why all 1,2", "0:1,2"), ("forget 1", "ok"), ("version", "1")):
            answered = desk.say(command)
            self.assertEqual((str, answer), (type(answered), answered), command)
        store = desk.store
        self.assertEqual((1, 1, ["likes", "admin"], ["self"]),
                         (store.version, store.oldest, store.tables(), store.constraints()))
        self.assertEqual((11, -10 ** 9), tuple(store.snapshot().payload("likes", key) for key in ((1, 2), (0, 7))))
        self.assertEqual((Query.read("likes(x,y)"), [(0, 1)]),
                         (store.keeper.kept_query("all"), store.orders("likes")))

    def test_the_store_can_be_used_besides(self):
        desk = small_desk()
        transaction = desk.store.begin()
        transaction.add_row("s", (0,), 0)
        transaction.commit()
        self.assertEqual(["2", "3"], said(desk, "version", "begin"))
        self.assertEqual("0 3", desk.say("ask 3 s(x)"))

    def test_queries_with_all_their_spaces(self):
        desk = small_desk()
        self.assertEqual("0,1 0,2", desk.say("ask 2 r(x,y), x < y, not s(x)"))
        desk.say("keep b r(x,y), not r(y,x), x != y by y,x")
        self.assertEqual("1,0 2,0", desk.say("told b"))

    def test_largest_integers(self):
        desk = small_desk()
        self.assertEqual("ok", desk.say("insert 2 s 0 1000000000"))
        self.must_raise(InvalidPayload, {"value": 9999999999}, desk.say, "insert 2 s 1 9999999999")
        self.must_raise(InvalidPayload, {"value": -9999999999}, desk.say, "insert 2 s 1 -9999999999")
        self.must_raise(InvalidKey, {"value": (9999999999,)}, desk.say, "insert 2 s 9999999999 0")
        self.must_raise(UnknownTransaction, {"value": 9999999999}, desk.say, "abandon 9999999999")
        self.must_raise(UnknownVersion, {"value": 9999999999}, desk.say, "forget 9999999999")
        self.must_raise(InvalidColumns, {"value": 9999999999}, desk.say, "table t 9999999999")


GOOD = {
    "table t 1": "ok", "require a s(0)": "ok", "keep b r(x,y)": "ok", "forget 0": "ok", "begin": "3",
    "insert 2 r 1,1 -5": "ok", "update 2 r 0,1 10": "ok", "delete 2 r 0,1": "ok", "abandon 2": "ok",
    "ask 2 r(x,y)": "0,1 0,2 2,2", "told all": "0,1 0,2 2,2", "told all 0": "-", "commit 2": "1", "version": "1",
    "why all 0,1": "0:0,1", "why none ()": "0:3",
}

# Which parts of these commands are integers, lists of integers, payloads; the word of the command has number 0.
INTEGERS = {"table t 1": (2,), "forget 0": (1,), "insert 2 r 1,1 -5": (1,), "update 2 r 0,1 10": (1,),
            "delete 2 r 0,1": (1,), "abandon 2": (1,), "ask 2 r(x,y)": (1,), "told all 0": (2,), "commit 2": (1,)}
LISTS = {"insert 2 r 1,1 -5": 3, "update 2 r 0,1 10": 3, "delete 2 r 0,1": 3, "why all 0,1": 2, "why none ()": 2}
PAYLOADS = {"insert 2 r 1,1 -5": 4, "update 2 r 0,1 10": 4}

NO_INTEGERS = ("", "01", "00", "+1", "-1", "-0", "1.", "1.0", "0x1", "1_0", "x", "one", "12345678901", "1,1", "1,",
               "()", "\u0661", "\u00b2", "1\n", "\n1", "(1)", "True", "None", "1e1")


class InvalidTest(unittest.TestCase, Raises):

    def desk(self):
        desk = small_desk()
        desk.say("keep none s(3)")
        return desk

    def assert_invalid(self, command):
        desk = self.desk()
        self.must_raise(InvalidCommand, {"value": command}, desk.say, command)
        self.assertEqual(("1", "3", ["r", "s"]), (desk.say("version"), desk.say("begin"), desk.store.tables()))
        self.assertEqual(["all", "none"], desk.store.keeper.names())

    def test_good_ones(self):
        for command, answer in GOOD.items():
            self.assertEqual(answer, self.desk().say(command), command)

    def test_values_that_are_no_strings(self):
        for value in NOT_STRINGS + (b"version", ["version"], ("begin",), EqualsAll()):
            self.assert_invalid(value)

    def test_other_words(self):
        for command in ("", " ", "x", "Begin", "BEGIN", "begins", "tell all", "drop 2 r 0,1", "insert", "version\n",
                        "beg in", "versio", "tables t 1", "exit", "begin;", "\nbegin", "not"):
            self.assert_invalid(command)

    def test_each_part_missing(self):
        for command in GOOD:
            words = command.split(" ")
            for at in range(len(words)):
                shorter = " ".join(words[:at] + words[at + 1:])
                if shorter not in ("told all", "told 0", "version"):
                    self.assert_invalid(shorter)
        self.must_raise(UnknownName, {"value": "0"}, self.desk().say, "told 0")

    def test_each_part_doubled(self):
        for command in GOOD:
            words = command.split(" ")
            for at in range(len(words)):
                longer = " ".join(words[:at + 1] + words[at:])
                # What follows the second word is the query then.
                if words[0] in ("require", "keep") or words[0] == "ask" and at > 0:
                    text = longer.split(" ", 2)[2]
                    self.must_raise(InvalidText, {"value": text}, self.desk().say, longer)
                else:
                    self.assert_invalid(longer)

    def test_further_spaces(self):
        for command in GOOD:
            self.assert_invalid(" " + command)
            words = command.split(" ")
            takes_rest = words[0] in ("require", "keep", "ask")
            for at in range(1, len(words)):
                spaced = " ".join(words[:at]) + "  " + " ".join(words[at:])
                if takes_rest and at == 2:
                    self.must_raise(InvalidText, {"value": " " + words[2]}, self.desk().say, spaced)
                else:
                    self.assert_invalid(spaced)
            if takes_rest:
                self.must_raise(InvalidText, {"value": words[2] + " "}, self.desk().say, command + " ")
            else:
                self.assert_invalid(command + " ")

    def test_empty_queries(self):
        for command in ("require a ", "require a", "keep a ", "ask 2 ", "ask 2", "keep  r(x,y)", "ask  r(x,y)"):
            self.assert_invalid(command)
        self.must_raise(InvalidText, {"value": " "}, self.desk().say, "ask 2  ")
        self.must_raise(InvalidText, {"value": "   "}, self.desk().say, "keep a    ")

    def test_integers(self):
        for command, places in INTEGERS.items():
            words = command.split(" ")
            for at in places:
                for wrong in NO_INTEGERS:
                    self.assert_invalid(" ".join(words[:at] + [wrong] + words[at + 1:]))

    def test_lists_of_integers(self):
        for command, at in LISTS.items():
            words = command.split(" ")
            wrongs = ["1,01", "1,,1", ",1", "1,-1", "1,+1", "1, 1", "1,x", "(1,1)", "1;1", "1,12345678901", "1,1,",
                      "1,()", "(),1", "( )"] + [wrong for wrong in NO_INTEGERS if wrong not in ("1,1", "()")]
            for wrong in wrongs + ["()"] * (words[0] != "why"):
                self.assert_invalid(" ".join(words[:at] + [wrong] + words[at + 1:]))

    def test_payloads(self):
        for command, at in PAYLOADS.items():
            words = command.split(" ")
            for wrong in NO_INTEGERS + ("--1", "-01", "-", "- 1", "-12345678901", "1-", "-1,1", "-00", "-x"):
                if wrong != "-1":
                    self.assert_invalid(" ".join(words[:at] + [wrong] + words[at + 1:]))
            for good in ("0", "-1", "1000000000", "-1000000000"):
                self.assertEqual("ok", self.desk().say(" ".join(words[:at] + [good] + words[at + 1:])))


class ErrorsTest(unittest.TestCase, Raises):

    def test_transactions(self):
        desk = small_desk()
        for number in (0, 3, 10, 9999999999):
            for command in ("insert {} u 9 9999999999", "update {} r 0,1 1", "delete {} r 0,1", "abandon {}",
                            "ask {} r(x", "ask {} r(x,y)", "commit {}"):
                self.must_raise(UnknownTransaction, {"value": number}, desk.say, command.format(number))
        # One that has ended is there, but not open.
        for command in ("insert 1 u 9 0", "update 1 r 0,1 1", "delete 1 r 0,1", "abandon 1", "ask 1 u(x)", "commit 1"):
            self.must_raise(Ended, {}, desk.say, command)
        self.must_raise(InvalidText, {"value": "u(x"}, desk.say, "ask 1 u(x")
        desk.say("abandon 2")
        self.must_raise(Ended, {}, desk.say, "commit 2")
        self.assertEqual("3", desk.say("begin"))

    def test_texts_of_queries(self):
        desk = small_desk()
        for text in ("r(x", "r(x, y)", "r(x,y),s(x)", "R(x)", "r(x,y) by x", "x<y", "1 < 2", "r(x,y)\n", "()", "x"):
            for command in ("require by ", "keep by ", "keep all ", "ask 2 ", "ask 1 "):
                self.must_raise(InvalidText, {"value": text}, desk.say, command + text)

    def test_table(self):
        desk = small_desk()
        for name in ("R", "by", "not", "abcdefghi", "a1", "r,s", "a\n", "()", "\u00e4"):
            self.must_raise(InvalidName, {"value": name}, desk.say, f"table {name} 9")
        self.must_raise(NameTaken, {"name": "r"}, desk.say, "table r 9")
        for columns in (0, 5):
            self.must_raise(InvalidColumns, {"value": columns}, desk.say, f"table t {columns}")

    def test_require_and_keep(self):
        desk = small_desk()
        desk.say("require a s(0)")
        for command, name in (("require", "a"), ("keep", "all")):
            self.must_raise(InvalidName, {"value": "A"}, desk.say, f"{command} A u(x)")
            self.must_raise(NameTaken, {"name": name}, desk.say, f"{command} {name} u(x)")
            self.must_raise(UnknownTable, {"value": "u"}, desk.say, f"{command} b u(x)")
            self.must_raise(WrongColumns, {"position": 1}, desk.say, f"{command} b s(x), r(x)")
            self.must_raise(InvalidValue, {"value": 4}, desk.say, f"{command} b s(x), x < 4")
        self.must_raise(NotEmpty, {"point": (0, 1)}, desk.say, "require b r(x,y)")

    def test_writes_and_questions(self):
        desk = small_desk()
        for word, more in (("insert", " 9999999999"), ("update", " 9999999999"), ("delete", "")):
            for table in ("u", "R", "not", "(", "r(x"):
                self.must_raise(UnknownTable, {"value": table}, desk.say, f"{word} 2 {table} 9{more}")
            for text, key in (("9", (9,)), ("0", (0,)), ("0,4", (0, 4)), ("0,0,0", (0, 0, 0))):
                self.must_raise(InvalidKey, {"value": key}, desk.say, f"{word} 2 r {text}{more}")
        self.must_raise(InvalidPayload, {"value": 1000000001}, desk.say, "insert 2 r 0,1 1000000001")
        self.must_raise(KeyTaken, {"table": "r", "key": (0, 1)}, desk.say, "insert 2 r 0,1 1")
        self.must_raise(NoSuchRow, {"table": "r", "key": (3, 1)}, desk.say, "update 2 r 3,1 1")
        self.must_raise(NoSuchRow, {"table": "s", "key": (1,)}, desk.say, "delete 2 s 1")
        self.must_raise(UnknownTable, {"value": "u"}, desk.say, "ask 2 u(x)")
        self.assertEqual("1", desk.say("commit 2"))

    def test_told_and_forget(self):
        desk = small_desk()
        for name in ("b", "All", "r", "not", "1"):
            self.must_raise(UnknownName, {"value": name}, desk.say, f"told {name}")
            self.must_raise(UnknownName, {"value": name}, desk.say, f"told {name} 9")
            self.must_raise(UnknownName, {"value": name}, desk.say, f"why {name} 9,9,9")
        self.must_raise(UnknownVersion, {"value": 2}, desk.say, "told all 2")
        self.must_raise(UnknownVersion, {"value": 2}, desk.say, "forget 2")
        said(desk, "begin", "delete 3 s 3", "commit 3")
        self.must_raise(Held, {"earliest": 1}, desk.say, "forget 2")
        said(desk, "forget 1", "abandon 2", "forget 2")
        self.must_raise(TooOld, {"least": 2}, desk.say, "told all 1")
        self.must_raise(TooOld, {"least": 2}, desk.say, "forget 1")

    def test_commits(self):
        desk = small_desk()
        desk.say("require a s(0)")
        said(desk, "ask 2 s(x)", "insert 2 r 3,3 0", "begin", "insert 3 s 0 0")
        self.must_raise(Violated, {"name": "a", "point": ()}, desk.say, "commit 3")
        said(desk, "begin", "insert 4 s 1 0", "commit 4")
        self.must_raise(Changed, {"act": 0, "item": (1,)}, desk.say, "commit 2")
        for number in (2, 3, 4):
            self.must_raise(Ended, {}, desk.say, f"commit {number}")


class WhyTest(unittest.TestCase, Raises):

    def test_points_of_the_answer(self):
        desk = small_desk()
        said(desk, "keep a r(x,y), x < y, not s(x), not r(y,x)", "keep b x < y", "keep c s(3), not s(1)")
        self.assertEqual(["0:0,1 2:0 3:1,0", "0:0,2 2:0 3:2,0", "-", "0:3 1:1"],
                         said(desk, "why a 0,1", "why a 0,2", "why b 1,2", "why c ()"))

    def test_every_point(self):
        desk = small_desk()
        texts = {"a": "r(x,y), x < y, not s(x)", "b": "x < y", "c": "s(3), s(1)", "d": "not s(x)", "e": "r(x,y) by y,x"}
        for name, text in texts.items():
            desk.say(f"keep {name} {text}")
        said(desk, "insert 2 r 1,3 0", "delete 2 r 0,2", "commit 2")
        keeper = desk.store.keeper
        for name, text in texts.items():
            for point in all_points(2, len(Query.read(text).variables)):
                told = desk.say(f"why {name} {','.join(map(str, point)) if point else '()'}")
                paper = keeper.kept_paper(name)
                if point in keeper.answer(name):
                    expected = [f"{position}:{','.join(map(str, key))}" for position, key in why(paper, point)]
                    self.assertEqual(" ".join(expected) or "-", told)
                else:
                    line, position = why_not(paper, point)
                    self.assertEqual(f"not {line} {position}", told)

    def test_catches_up(self):
        desk = small_desk()
        keeper = desk.store.keeper
        said(desk, "delete 2 r 0,1", "commit 2")
        # The paper is still that of version 1; what raises an error does not let it catch up.
        for text, point in (("4,0", (4, 0)), ("0", (0,)), ("0,0,0", (0, 0, 0)), ("()", ()),
                            ("0,9999999999", (0, 9999999999))):
            self.must_raise(InvalidPoint, {"value": point}, desk.say, f"why all {text}")
        self.assertEqual(1, keeper.version_of("all"))
        told = desk.say("why all 0,1")
        line, position = why_not(keeper.kept_paper("all"), (0, 1))
        self.assertEqual((2, f"not {line} {position}"), (keeper.version_of("all"), told))
        self.assertEqual("0:0,2", desk.say("why all 0,2"))

    def test_no_points_of_the_space(self):
        desk = small_desk()
        said(desk, "keep c s(3)", "keep d s(x)")
        for command, point in (("why c 0", (0,)), ("why c 3", (3,)), ("why d ()", ()), ("why d 4", (4,)),
                               ("why d 0,0", (0, 0)), ("why all 0", (0,)), ("why all 0,4", (0, 4))):
            self.must_raise(InvalidPoint, {"value": point}, desk.say, command)


if __name__ == "__main__":
    unittest.main()
