"""Points [16] and [20]: literals, orders, texts of queries, and whether they fit."""

import itertools
import unittest

from coverstore.bases import Base
from coverstore.errors import InvalidQuery, InvalidText, InvalidValue, UnknownTable, WrongColumns
from coverstore.queries import Query, fit

from helpers import NAMES, NOT_INTEGERS, NOT_LISTS, NOT_NAMES, NOT_STRINGS, NOT_TUPLES, EqualsAll, Raises

ROW = ("row", "r", ("x", "y"))

# A term that is neither a name nor an integer from 0 to 1023; some names are among the values that are no integers.
NO_TERMS = (-1, 1024, 10 ** 9, 2 ** 90, EqualsAll()) + NOT_INTEGERS + NOT_NAMES[4:]


def problem(name, position=-1):
    return {"problem": name, "position": position}


class MakingTest(unittest.TestCase, Raises):

    def test_literals_and_variables(self):
        literals = [("row", "r", ("x", 1, "y", "x")), ("none", "s", ("z",)), ("<", "y", 7), ("!=", 0, "w")]
        query = Query(literals)
        self.assertEqual(literals, query.literals())
        self.assertEqual(("x", "y", "z", "w"), query.variables)
        self.assertIs(tuple, type(query.variables))
        self.assertEqual(4, len(query))
        self.assertEqual((8, 5, 1023), (Query.MAX_LITERALS, Query.MAX_VARIABLES, Query.MAX_INTEGER))

    def test_one_to_eight_literals(self):
        for many in range(1, 9):
            query = Query([ROW] * many)
            self.assertEqual(many, len(query))
            self.assertEqual(("x", "y"), query.variables)
        for many in (0, 9, 10, 2500):
            self.must_raise(InvalidQuery, problem("literals"), Query, [ROW] * many)
            self.must_raise(InvalidQuery, problem("literals"), Query, [None] * many, 7)
        for literals in NOT_LISTS:
            self.must_raise(InvalidQuery, problem("literals"), Query, literals, 7)
        self.assertEqual(Query([ROW]), Query(literals=(ROW,), order=None))

    def test_no_variables(self):
        for query in (Query([("row", "r", (0, 1023))]), Query([("none", "r", (5,))], ())):
            self.assertEqual((), query.variables)
        self.must_raise(InvalidQuery, problem("order"), Query, [("row", "r", (0,))], ("x",))

    def test_up_to_five_variables(self):
        five = Query([("row", "r", ("a", "b", "c", "d")), ("<", "e", "a")])
        self.assertEqual(("a", "b", "c", "d", "e"), five.variables)
        self.must_raise(InvalidQuery, problem("variables"), Query, [("row", "r", tuple("abcd")), ("=", "e", "f")], 7)
        self.must_raise(
            InvalidQuery, problem("variables"), Query, [("none", "r", ("a", "b", "c")), ("none", "r", ("d", "e", "f"))])

    def test_terms_at_the_edges(self):
        for term in (0, 1, 1023) + NAMES:
            Query([("row", "r", (term,)), ("none", "r", (term, "x")), ("<", term, "x"), ("=", "x", term)])
        for count in range(1, 5):
            Query([("row", "r", ("x",) * count)])

    def test_wrong_literals(self):
        wrong = [
            (), ("row",), ("row", "r"), ("row", "r", ("x",), 1), ("row", "r", ()), ("row", "r", ("x",) * 5),
            ("row", "r", ["x"]), ("row", "r", "x"), ("Row", "r", ("x",)), ("not", "r", ("x",)), ("", "r", ("x",)),
            (">", "x", "y"), (">=", "x", "y"), ("==", "x", "y"), ("!", "x", "y"), ("<=>", "x", "y"), ("<", "x"),
            ("<", "x", "y", "z"), ("<", 1, 2), ("!=", 0, 0), ("=", ("x", "y")), ["<", "x", "y"], ["row", "r", ("x",)],
            (EqualsAll(), "x", "y"), (EqualsAll(), "r", ("x",)), (("row",), "r", ("x",)), (["<"], "x", "y"),
            "row", "<xy",
        ]
        wrong += [("row", name, ("x",)) for name in NOT_NAMES] + [("none", name, ("x",)) for name in NOT_NAMES]
        wrong += [("row", "r", ("x", term)) for term in NO_TERMS] + [("none", "r", (term, 1)) for term in NO_TERMS]
        wrong += [("<", "x", term) for term in NO_TERMS] + [("!=", term, "x") for term in NO_TERMS]
        wrong += [("row", "r", terms) for terms in NOT_TUPLES] + list(NOT_TUPLES) + [EqualsAll()]
        six = ("none", "r", ("a", "b", "c", "d"))
        for literal in wrong:
            self.must_raise(InvalidQuery, problem("literal", 0), Query, [literal])
            self.must_raise(InvalidQuery, problem("literal", 3), Query, [ROW, six, ROW, literal, None], 7)

    def test_orders(self):
        literals = [("<", "x", "y"), ("row", "r", ("z", "x"))]
        for order in itertools.permutations("xyz"):
            self.assertEqual(order, Query(literals, order).variables)
            self.assertEqual(order, Query(literals, order=order).variables)
            self.assertEqual(Query(literals, order), Query(literals).in_order(*order))
            self.assertEqual(Query(literals), Query(literals, order).in_order("x", "y", "z"))
        self.assertEqual(("x", "y", "z"), Query(literals).variables)

    def test_wrong_orders(self):
        literals = [("<", "x", "y"), ("row", "r", ("z", "x"))]
        wrong = ((), ("x", "y"), ("x", "y", "z", "x"), ("x", "x", "z"), ("x", "y", "w"), ("x", "y", 1),
                 ("x", "y", None), ("x", "y", ("z",)), ("x", "y", ["z"]), ["x", "y", "z"], "xyz",
                 {"x": 0, "y": 0, "z": 0}, EqualsAll())
        for order in wrong + tuple(value for value in NOT_TUPLES if value is not None):
            self.must_raise(InvalidQuery, problem("order"), Query, literals, order)
        for order in wrong[:9]:
            self.must_raise(InvalidQuery, problem("order"), Query(literals).in_order, *order)
        self.must_raise(InvalidQuery, problem("order"), Query(literals).in_order, EqualsAll(), EqualsAll(), EqualsAll())

    def test_later_changes_have_no_effect(self):
        literals = [ROW, ("<", "x", 3)]
        query = Query(literals)
        literals[0] = ("row", "s", ("z",))
        literals.append(ROW)
        self.assertEqual([ROW, ("<", "x", 3)], query.literals())
        told = query.literals()
        told.clear()
        self.assertEqual([ROW, ("<", "x", 3)], query.literals())
        other = query.in_order("y", "x")
        self.assertEqual((("x", "y"), ("y", "x")), (query.variables, other.variables))


class EqualityTest(unittest.TestCase):

    def test_equal(self):
        one = Query([ROW, ("<", "x", 3)])
        self.assertTrue(one == Query((ROW, ("<", "x", 3)), ("x", "y")))
        self.assertFalse(one != Query([ROW, ("<", "x", 3)]))

    def test_different(self):
        one = Query([ROW, ("<", "x", 3)])
        for other in (Query([ROW, ("<", "x", 3)], ("y", "x")), Query([("<", "x", 3), ROW]), Query([ROW]),
                      Query([ROW, ("<", "x", 4)]), Query([ROW, ("<=", "x", 3)])):
            self.assertFalse(one == other)
            self.assertTrue(one != other)

    def test_other_kinds(self):
        one = Query([ROW])
        for other in ([ROW], (ROW,), "r(x,y)", None, 1, True, object(), EqualsAll(), Query):
            self.assertFalse(one == other)
            self.assertTrue(one != other)


class TextTest(unittest.TestCase, Raises):

    TEXTS = {
        "r(x,y)": Query([ROW]),
        "not r(0)": Query([("none", "r", (0,))]),
        "r(1023,x,10,x)": Query([("row", "r", (1023, "x", 10, "x"))]),
        "x < 3": Query([("<", "x", 3)]),
        "0 <= x": Query([("<=", 0, "x")]),
        "x = x": Query([("=", "x", "x")]),
        "x != y by y,x": Query([("!=", "x", "y")], ("y", "x")),
        "r(x,y), not s(y,5), x < y, 7 != z by z,x,y":
            Query([ROW, ("none", "s", ("y", 5)), ("<", "x", "y"), ("!=", 7, "z")], ("z", "x", "y")),
        "bye(nots), nots = bye": Query([("row", "bye", ("nots",)), ("=", "nots", "bye")]),
        "row(none), not none(row)": Query([("row", "row", ("none",)), ("none", "none", ("row",))]),
    }

    def test_texts_and_back(self):
        for text, query in self.TEXTS.items():
            self.assertEqual(text, str(query))
            self.assertEqual(query, Query.read(text))
        self.assertEqual(Query([ROW]), Query.read(text="r(x,y)"))

    def test_repr(self):
        self.assertEqual("Query([('row', 'r', ('x', 'y'))], ('x', 'y'))", repr(Query([ROW])))
        self.assertEqual("Query([('<', 'x', 3), ('none', 'r', (0,))], ('x',))",
                         repr(Query((("<", "x", 3), ("none", "r", (0,))))))
        self.assertEqual("Query([('row', 'r', (1,))], ())", repr(Query([("row", "r", (1,))])))
        self.assertEqual("Query([('!=', 'x', 'y')], ('y', 'x'))", repr(Query([("!=", "x", "y")], ("y", "x"))))

    def test_all_orders_and_literals_are_read_back(self):
        terms = ("x", "y", 0, 1023)
        literals = [(sign, one, other) for sign in ("<", "<=", "=", "!=") for one in terms for other in terms
                    if isinstance(one, str) or isinstance(other, str)]
        literals += [(kind, "t", chosen) for kind in ("row", "none") for chosen in itertools.product(terms, repeat=2)]
        for one, other in itertools.product(literals, literals[::5]):
            query = Query([one, other])
            for order in itertools.permutations(query.variables):
                ordered = Query([one, other], order)
                self.assertEqual(ordered, Query.read(str(ordered)))

    def test_other_texts(self):
        texts = (
            "", " ", ",", ", ", "r", "r()", "r(", "r(x", "r x)", "(x)", "x)", ")", "r(x))",
            "r((x)", "r(x)(y)", "r(x,)",
            "r(,x)", "r(x, y)", "r( x)", "r(x )", "r (x)", " r(x)", "r(x) ", "r(x)\n", "r(x),s(x)", "r(x),  s(x)",
            "r(x) , s(x)", "r(x), ", ", r(x)", "r(x);s(x)", "not", "not ", "not  r(x)", "not not r(x)",
            "not(x)", "by(x)", "r(not)", "r(by)", "not not(x)", "not r(x", "not rx", "not x < 3",
            "R(x)", "r(X)", "r(1x)",
            "r(x1)", "r(01)", "r(00)", "r(0001)", "r(1024)", "r(9999)", "r(10000)", "r(00001)",
            "r(-1)", "r(+1)", "r(1_0)",
            "r(1 0)", "r(x,x,x,x,x)", "r(abcdefghi)", "abcdefghi(x)", "x<3", "x <3", "x< 3", "x  < 3", " x < 3",
            "x < 3 ", "x < 03", "x < 1024", "1 < 2", "x > 3", "x == 3", "x <> y", "x => y", "x",
            "x <", "< x", "x < y < z",
            "not < x", "x < not", "x < by", "by < x", "r(x,y) by x,y", "r(x,y) by y", "r(x,y) by y,x,x", "r(x,y) by ",
            "r(x,y) by", "r(x,y)by y,x", "r(x,y) by  y,x", "r(x,y) by y, x", "r(x,y) by y,x ", "r(x,y)  by y,x",
            "r(x,y) by y,z", "r(x,y) by y,x by y,x", "r(x,y) BY y,x", "r(1) by ", "r(1) by x",
            "r(x,y), by y,x", "by y,x",
            " by y,x", "r(x,y) by 1", "r(x,y)\nby y,x", "r(x)\n, s(x)", "x\n< 3", ", ".join(["r(x)"] * 9),
            "r(a,b,c), r(d,e,f)", "r(" + "1" * 5000 + ")",
            "1" * 20000, "x < " + "9" * 5000, "(" * 20000, ", " * 10000,
        )
        for text in texts + NOT_STRINGS:
            self.must_raise(InvalidText, {"value": text}, Query.read, text)

    def test_eight_literals_are_read(self):
        text = ", ".join(["r(x)"] * 8)
        self.assertEqual(text, str(Query.read(text)))


class FitTest(unittest.TestCase, Raises):

    def source(self):
        base = Base(3)
        base.add_table("r", 2)
        base.add_table("s", 1)
        return base.snapshot()

    def test_fits(self):
        for text in ("r(x,y)", "r(7,0), not s(x), x < 7", "0 != x"):
            self.assertIsNone(fit(Query.read(text), self.source()))
        self.assertIsNone(fit(source=self.source(), query=Query.read("s(x)")))

    def test_does_not_fit(self):
        for text, kind, told in (
                ("t(x)", UnknownTable, {"value": "t"}),
                ("s(x), not t(8)", UnknownTable, {"value": "t"}),
                ("s(x,8), t(x)", WrongColumns, {"position": 0}),
                ("s(x), r(8)", WrongColumns, {"position": 1}),
                ("x < 1, not r(x,y,z)", WrongColumns, {"position": 1}),
                ("r(8,9)", InvalidValue, {"value": 8}),
                ("r(7,9), t(x)", InvalidValue, {"value": 9}),
                ("x < 8, t(x)", InvalidValue, {"value": 8}),
                ("1023 != x", InvalidValue, {"value": 1023}),
                ("x = 7, 8 = x", InvalidValue, {"value": 8}),
        ):
            self.must_raise(kind, told, fit, Query.read(text), self.source())

    def test_tables_that_are_added_later(self):
        base = Base(3)
        source = base.snapshot()
        self.must_raise(UnknownTable, {"value": "r"}, fit, Query([ROW]), source)
        base.add_table("r", 2)
        self.assertIsNone(fit(Query([ROW]), source))

    def test_forgotten_versions_do_not_matter(self):
        base = Base(3)
        base.add_table("r", 2)
        source = base.snapshot()
        base.commit([("insert", "r", (0, 0), 1)])
        base.forget(1)
        self.assertIsNone(fit(Query([ROW]), source))


if __name__ == "__main__":
    unittest.main()
