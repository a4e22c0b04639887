"""Transactions beside slow ones, with which each of their calls is compared."""

from coverstore.errors import Changed, KeyTaken, NoSuchRow, Violated
from coverstore.queries import Query

from helpers import Raises


def write(transaction, kind, *parts):
    {"insert": transaction.add_row, "update": transaction.change_row, "delete": transaction.drop_row}[kind](*parts)


def change(store, *writes):
    """Commit writes in a transaction of their own."""
    transaction = store.begin()
    for one in writes:
        write(transaction, *one)
    return transaction.commit()


class Pairs(Raises):
    """Mixed into test cases: acts and ends of a transaction and of a slow one, over tables r and s."""

    TEXTS = ("r(x,y), not s(y)", "r(x,y), r(y,x)", "not r(x,x), s(x)", "r(x,1)", "not s(x)", "s(1)", "x < y, r(y,x)",
             "r(x,y) by y,x", "r(0,3), s(3)")

    def act(self, numbers, transaction, slow):
        """Some act of both."""
        kind = numbers.below(6)
        query = Query.read(numbers.one_of(self.TEXTS))
        if kind == 0:
            self.assertEqual(slow.ask(query), transaction.ask(query))
        elif kind == 1:
            by = query.variables[:numbers.below(2)]
            what, of = ("count", None) if query.literals()[0][0] != "row" else numbers.one_of(
                [("count", None), ("sum", 0), ("least", 0), ("greatest", query.variables[0])
                 if query.variables else ("sum", 0)])
            self.assertEqual(slow.groups(query, by, what, of), transaction.groups(query, by, what, of))
        else:
            table = numbers.one_of("rs")
            key = numbers.one_of(slow.store.model.all_keys(table))
            parts = ("insert", table, key, numbers.below(3))
            if (table, key) in slow.rows or numbers.below(8) == 0:
                parts = numbers.one_of([("update", table, key, numbers.below(3)), ("delete", table, key), parts])
            if slow.write(*parts) == "done":
                write(transaction, *parts)
            else:
                kind = KeyTaken if parts[0] == "insert" else NoSuchRow
                self.must_raise(kind, {"table": table, "key": key}, write, transaction, *parts)
        self.assertEqual((slow.acts, slow.writes), (transaction.acts(), transaction.writes()))

    def end(self, numbers, transaction, slow):
        """Commit or abandon both; return what became of them."""
        if numbers.below(6) == 0:
            transaction.abandon()
            return "abandoned"
        word, *told = slow.commit()
        self.commit_like(transaction, word, told)
        self.assertIs(False, transaction.is_open)
        return word

    def commit_like(self, transaction, word, told):
        """A commit must end as that of a slow transaction did."""
        if word == "version":
            self.assertEqual(told[0], transaction.commit())
        elif word == "changed":
            self.must_raise(Changed, {"act": told[0], "item": told[1]}, transaction.commit)
        else:
            self.must_raise(Violated, {"name": told[0], "point": told[1]}, transaction.commit)
