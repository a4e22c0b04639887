"""Points [17] to [19]: literals at points, answers, boxes laid over, false boxes."""

import itertools
import operator
import unittest

from coverstore.bases import Base
from coverstore.boxes import Box
from coverstore.errors import Holds, InvalidBits, InvalidPlace, InvalidPoint, InvalidValue, TooLarge, TooOld
from coverstore.errors import UnknownTable, Unlike, WrongColumns
from coverstore.evaluating import false_box, first_failing, is_false_in, key_at, laid_over, literal_holds, plain_answer
from coverstore.queries import Query

from helpers import NOT_INTEGERS, NOT_TUPLES, EqualsAll, Numbers, Raises, all_boxes, all_points, digits_of

SIGNS = {"<": operator.lt, "<=": operator.le, "=": operator.eq, "!=": operator.ne}

NO_PLACES = (-1, 4, 2 ** 70, EqualsAll()) + NOT_INTEGERS


def put_in(query, position, point):
    """The terms of a literal with the values of a point, by definition."""
    values = dict(zip(query.variables, point))
    literal = query.literals()[position]
    terms = literal[2] if literal[0] in ("row", "none") else literal[1:]
    return tuple(values.get(term, term) for term in terms)


def comparison_holds(query, position, point):
    return SIGNS[query.literals()[position][0]](*put_in(query, position, point))


class KeyTest(unittest.TestCase, Raises):

    def test_keys(self):
        query = Query.read("r(x,7,y,x), not s(z), x < y, t(5) by z,y,x")
        self.assertEqual((3, 7, 2, 3), key_at(query, 0, (1, 2, 3)))
        self.assertEqual((1,), key_at(query, 1, (1, 2, 3)))
        self.assertEqual((5,), key_at(query=query, position=3, point=(1, 2, 3)))
        self.assertEqual((1023, 7, 0, 1023), key_at(query, 0, (5, 0, 1023)))
        self.assertEqual((9,), key_at(Query.read("r(9)"), 0, ()))
        self.assertIs(tuple, type(key_at(query, 0, (1, 2, 3))))

    def test_places_first(self):
        query = Query.read("r(x), x < 3, not s(x), 0 = x")
        for position in NO_PLACES + (1, 3):
            self.must_raise(InvalidPlace, {"value": position}, key_at, query, position, None)

    def test_points_second(self):
        query = Query.read("r(x,y)")
        for point in ((0,), (0, 0, 0), (), (0, 1024), (-1, 0), (True, 0), (0, False), (0, None), ("0", 0), ((0,), 0),
                      EqualsAll(), Box.at(3, 0, 0)) + NOT_TUPLES:
            self.must_raise(InvalidPoint, {"value": point}, key_at, query, 0, point)


class LaidOverTest(unittest.TestCase, Raises):

    def test_exactly_the_points_whose_key_is_in_the_box(self):
        for bits, text in ((2, "r(x,y)"), (2, "not r(x,x)"), (2, "r(x,3)"), (2, "not r(1,2)"),
                           (2, "r(y,x), z < x by z,y,x"), (1, "r(x,y,x)"), (1, "r(x,x,x)"),
                           (1, "not r(x,0,x), y < z"), (1, "r(x,y,1,x)")):
            query = Query.read(text)
            points = all_points(bits, len(query.variables))
            for box in all_boxes(bits, len(query.literals()[0][2])):
                inside = [point for point in points if box.holds(put_in(query, 0, point))]
                laid = laid_over(query, 0, box)
                if laid is None:
                    self.assertEqual([], inside)
                else:
                    self.assertEqual(bits, laid.bits)
                    self.assertEqual(inside, list(laid.each_point()))

    def test_examples(self):
        query = Query.read("r(x,5,x), not s(y,z) by z,y,x")
        self.assertEqual(Box(3, ["", "", "01"]), laid_over(query, 0, Box(3, ["0", "10", "01"])))
        self.assertEqual(Box(3, ["", "", "01"]), laid_over(query, 0, Box(3, ["01", "", "0"])))
        self.assertEqual(Box(3, ["", "", ""]), laid_over(query, 0, Box(3, ["", "101", ""])))
        self.assertIsNone(laid_over(query, 0, Box(3, ["0", "11", "01"])))
        self.assertIsNone(laid_over(query, 0, Box(3, ["00", "", "01"])))
        self.assertEqual(Box(3, ["1", "0", ""]), laid_over(query=query, position=1, box=Box(3, ["0", "1"])))
        self.assertEqual(Box(3), laid_over(Query.read("r(5)"), 0, Box(3, ["10"])))
        self.assertIsNone(laid_over(Query.read("r(5)"), 0, Box(3, ["11"])))

    def test_errors_in_their_order(self):
        query = Query.read("r(x,8,y), x < 9, not s(8,100)")
        for position in NO_PLACES + (1, 3):
            self.must_raise(InvalidPlace, {"value": position}, laid_over, query, position, Box(3))
        for box in (Box(3), Box.whole(3, 2), Box.whole(3, 4), None, ("", "", "")):
            self.must_raise(Unlike, {}, laid_over, query, 0, box)
        self.must_raise(Unlike, {}, laid_over, query, 2, Box.whole(3, 3))
        self.must_raise(InvalidValue, {"value": 8}, laid_over, query, 0, Box(3, ["", "111", ""]))
        self.must_raise(InvalidValue, {"value": 8}, laid_over, query, 2, Box.whole(3, 2))
        self.must_raise(InvalidValue, {"value": 8}, laid_over, Query.read("r(x,x,8)"), 0, Box(3, ["0", "1", "0"]))
        self.must_raise(InvalidValue, {"value": 100}, laid_over, query, 2, Box.whole(4, 2))
        self.assertEqual(Box(4, ["", ""]), laid_over(query, 0, Box.whole(4, 3)))


class FalseBoxTest(unittest.TestCase, Raises):

    def test_by_definition(self):
        for bits in (1, 2, 3):
            for sign in SIGNS:
                for number in range(2 ** bits):
                    self.compare_with_integer(bits, Query([(sign, "x", number)]), number)
                    self.compare_with_integer(bits, Query([(sign, number, "x")]), number)
                self.compare_two_variables(bits, Query([(sign, "x", "y")]))
                self.compare_two_variables(bits, Query([(sign, "x", "y")], ("y", "x")))

    def compare_with_integer(self, bits, query, number):
        for value in range(2 ** bits):
            if comparison_holds(query, 0, (value,)):
                self.must_raise(Holds, {"position": 0}, false_box, query, 0, (value,), bits)
                continue
            digits = digits_of(value, bits)
            expected = next(
                digits[:length] for length in range(bits + 1)
                if not any(comparison_holds(query, 0, (other,)) for other in range(2 ** bits)
                           if digits_of(other, bits).startswith(digits[:length])))
            self.assertEqual(Box(bits, [expected]), false_box(query, 0, (value,), bits))

    def compare_two_variables(self, bits, query):
        for point in all_points(bits, 2):
            if comparison_holds(query, 0, point):
                self.must_raise(Holds, {"position": 0}, false_box, query, 0, point, bits)
                continue
            one, other = digits_of(point[0], bits), digits_of(point[1], bits)
            shared = next((at for at in range(bits) if one[at] != other[at]), bits)
            box = false_box(query, 0, point, bits)
            self.assertEqual(Box(bits, [one[:shared + 1], other[:shared + 1]]), box)
            self.assertFalse(any(comparison_holds(query, 0, inside) for inside in box.each_point()))

    def test_examples(self):
        query = Query.read("x < 3, 3 <= y, x = y, y != y, z < z by z,y,x")
        self.assertEqual(Box(3, ["", "", "1"]), false_box(query, 0, (0, 0, 5), 3))
        self.assertEqual(Box(3, ["", "", "011"]), false_box(query, 0, (0, 0, 3), 3))
        self.assertEqual(Box(3, ["", "00", ""]), false_box(query, 1, (7, 0, 7), 3))
        self.assertEqual(Box(3, ["", "10", "11"]), false_box(query, 2, (0, 5, 6), 3))
        self.assertEqual(Box(3, ["", "100", "101"]), false_box(query, 2, (0, 4, 5), 3))
        self.assertEqual(Box.whole(3, 3), false_box(query, 3, (1, 2, 3), 3))
        self.assertEqual(Box.whole(10, 3), false_box(query=query, position=4, point=(1023, 0, 0), bits=10))

    def test_never_false_and_never_true(self):
        self.assertEqual(Box(3, [""]), false_box(Query.read("x < 0"), 0, (7,), 3))
        self.assertEqual(Box(3, [""]), false_box(Query.read("7 < x"), 0, (0,), 3))
        self.assertEqual(Box(3, ["101"]), false_box(Query.read("x != 5"), 0, (5,), 3))
        self.must_raise(Holds, {"position": 0}, false_box, Query.read("x <= 7"), 0, (7,), 3)
        self.must_raise(Holds, {"position": 0}, false_box, Query.read("x = x"), 0, (1,), 3)
        self.must_raise(Holds, {"position": 1}, false_box, Query.read("y < 1, x <= x"), 1, (1, 1), 3)

    def test_errors_in_their_order(self):
        query = Query.read("r(x), x < 8, not r(y), 9 != y")
        for bits in (0, 11, EqualsAll()) + NOT_INTEGERS:
            self.must_raise(InvalidBits, {"value": bits}, false_box, query, 0, None, bits)
        for position in NO_PLACES + (0, 2):
            self.must_raise(InvalidPlace, {"value": position}, false_box, query, position, None, 3)
        for point in ((0,), (0, 0, 0), (), (0, 8), (-1, 0), (True, 0), (0, False), EqualsAll()) + NOT_TUPLES:
            self.must_raise(InvalidPoint, {"value": point}, false_box, query, 1, point, 3)
        self.must_raise(InvalidValue, {"value": 8}, false_box, query, 1, (0, 0), 3)
        self.must_raise(InvalidValue, {"value": 9}, false_box, query, 3, (0, 0), 3)
        self.must_raise(Holds, {"position": 1}, false_box, query, 1, (0, 9), 4)
        self.assertEqual(Box(4, ["", "1001"]), false_box(query, 3, (0, 9), 4))


class FalseInTest(unittest.TestCase, Raises):

    def test_by_definition(self):
        for bits in (1, 2):
            for sign in SIGNS:
                for one, other in itertools.product(("x", "y", 0, 1, 2 ** bits - 1), repeat=2):
                    if isinstance(one, str) or isinstance(other, str):
                        query = Query([(sign, one, other), ("<=", "y", "x")], ("y", "x"))
                        self.compare(query, bits)

    def compare(self, query, bits):
        for box in all_boxes(bits, 2):
            expected = not any(comparison_holds(query, 0, point) for point in box.each_point())
            self.assertIs(expected, is_false_in(query, 0, box), (str(query), str(box)))

    def test_examples(self):
        query = Query.read("x < 4, x != y, y != y")
        self.assertIs(True, is_false_in(query, 0, Box(10, ["0000000100", ""])))
        self.assertIs(False, is_false_in(query, 0, Box(10, ["00000000", ""])))
        self.assertIs(True, is_false_in(query, 1, Box.at(10, 1023, 1023)))
        self.assertIs(False, is_false_in(query, 1, Box(10, ["111111111", "1111111111"])))
        self.assertIs(True, is_false_in(query=query, position=2, box=Box.whole(10, 2)))

    def test_errors_in_their_order(self):
        query = Query.read("r(x), x < 8, not r(y), 9 != y")
        for position in NO_PLACES + (0, 2):
            self.must_raise(InvalidPlace, {"value": position}, is_false_in, query, position, Box(3))
        for box in (Box(3), Box.whole(3, 1), Box.whole(3, 3)):
            self.must_raise(Unlike, {}, is_false_in, query, 1, box)
        self.must_raise(InvalidValue, {"value": 8}, is_false_in, query, 1, Box.whole(3, 2))
        self.must_raise(InvalidValue, {"value": 9}, is_false_in, query, 3, Box.whole(3, 2))


class HoldingTest(unittest.TestCase, Raises):

    def source(self):
        base = Base(3)
        base.add_table("r", 2)
        base.add_table("s", 1)
        base.commit([("insert", "r", (1, 2), 0), ("insert", "r", (2, 2), 7), ("insert", "s", (2,), -1)])
        return base.snapshot()

    def test_literals(self):
        source, query = self.source(), Query.read("r(x,y), not s(x), x < y, 2 != y, s(2)")
        expected = {(1, 2): [True, True, True, False, True], (2, 2): [True, False, False, False, True],
                    (0, 7): [False, True, True, True, True], (2, 1): [False, False, False, True, True]}
        for point, holding in expected.items():
            self.assertEqual(holding, [literal_holds(source, query, position, point) for position in range(5)])
        self.assertIs(True, literal_holds(source=source, query=query, position=0, point=(1, 2)))

    def test_first_failing(self):
        source, query = self.source(), Query.read("r(x,y), not s(x), x < y, s(y)")
        self.assertIsNone(first_failing(source, query, (1, 2)))
        self.assertEqual(1, first_failing(source, query, (2, 2)))
        self.assertEqual(0, first_failing(source, query, (2, 1)))
        self.assertEqual(2, first_failing(source, Query.read("r(1,2), not s(x), x < y"), (7, 7)))
        self.assertEqual(1, first_failing(source=source, query=Query.read("x <= x, s(x)"), point=(3,)))
        self.assertIsNone(first_failing(source, Query.read("r(1,2), not s(3)"), ()))
        self.assertEqual(0, first_failing(source, Query.read("not r(1,2)"), ()))

    def test_queries_that_do_not_fit_first(self):
        source = self.source()
        for text, kind, told in (("t(x)", UnknownTable, {"value": "t"}), ("r(x)", WrongColumns, {"position": 0}),
                                 ("x < 8", InvalidValue, {"value": 8})):
            query = Query.read(text)
            self.must_raise(kind, told, literal_holds, source, query, 7, None)
            self.must_raise(kind, told, first_failing, source, query, None)
            self.must_raise(kind, told, plain_answer, source, query)

    def test_positions_and_points(self):
        source, query = self.source(), Query.read("r(x,y), x < y")
        for position in NO_PLACES + (2,):
            self.must_raise(InvalidPlace, {"value": position}, literal_holds, source, query, position, None)
        for point in ((0,), (0, 0, 0), (), (0, 8), (-1, 0), (True, 0), (0, False), EqualsAll()) + NOT_TUPLES:
            self.must_raise(InvalidPoint, {"value": point}, literal_holds, source, query, 1, point)
            self.must_raise(InvalidPoint, {"value": point}, first_failing, source, query, point)

    def test_forgotten_versions_last(self):
        base = Base(3)
        base.add_table("r", 1)
        source = base.snapshot()
        base.commit([("insert", "r", (1,), 0)])
        base.forget(1)
        query, told = Query.read("x < 3, r(x)"), {"least": 1}
        self.must_raise(TooOld, told, literal_holds, source, query, 1, (1,))
        self.must_raise(InvalidPlace, {"value": 2}, literal_holds, source, query, 2, (1,))
        self.must_raise(InvalidPoint, {"value": (8,)}, literal_holds, source, query, 1, (8,))
        self.assertIs(True, literal_holds(source, query, 0, (1,)))
        self.must_raise(TooOld, told, first_failing, source, query, (1,))
        self.assertEqual(0, first_failing(source, query, (3,)))
        self.must_raise(TooOld, told, plain_answer, source, query)
        self.assertEqual([], plain_answer(source, Query.read("x < x, r(x)")))
        self.assertEqual([(0,), (1,), (2,)], plain_answer(source, Query.read("x < 3")))


class PlainAnswerTest(unittest.TestCase, Raises):

    def test_by_definition(self):
        texts = ("r(x,y)", "r(x,y), r(y,z), x != z by z,y,x", "r(x,x)", "not r(x,3), s(x)", "x <= y, not s(y), y < 3",
                 "r(x,1), not r(1,x)", "s(x), s(y), x < y by y,x", "x = 2, y != y", "z < 2, r(x,x), not s(y)")
        for seed in range(6):
            numbers, base = Numbers(seed), Base(2)
            base.add_table("r", 2)
            base.add_table("s", 1)
            present = {("r", key) for key in all_points(2, 2) if numbers.below(2)}
            present |= {("s", key) for key in all_points(2, 1) if numbers.below(2)}
            base.commit([("insert", table, key, 0) for table, key in sorted(present)])
            for text in texts:
                query = Query.read(text)
                expected = [
                    point for point in all_points(2, len(query.variables))
                    if all(self.holds(query, position, point, present) for position in range(len(query)))]
                self.assertEqual(expected, plain_answer(base.snapshot(), query))

    def holds(self, query, position, point, present):
        kind, table, _ = query.literals()[position]
        if kind in SIGNS:
            return comparison_holds(query, position, point)
        return ((table, put_in(query, position, point)) in present) == (kind == "row")

    def test_without_variables(self):
        base = Base(3)
        base.add_table("r", 1)
        query = Query.read("r(5)")
        self.assertEqual([], plain_answer(base.snapshot(), query))
        base.commit([("insert", "r", (5,), 0)])
        self.assertEqual([()], plain_answer(source=base.snapshot(), query=query))
        self.assertEqual([], plain_answer(base.snapshot(), Query.read("not r(5)")))

    def test_the_largest_space(self):
        base = Base(3)
        query = Query.read("a < 1, b < 1, c < 1, d < 1, e < 2")
        self.assertEqual([(0, 0, 0, 0, 0), (0, 0, 0, 0, 1)], plain_answer(base.snapshot(), query))
        self.assertEqual(2 ** 10, len(plain_answer(Base(10).snapshot(), Query.read("x <= x"))))

    def test_spaces_that_are_too_large(self):
        query = Query.read("a < 1, b < 1, c < 1, d < 1")
        self.must_raise(TooLarge, {"count": 2 ** 16}, plain_answer, Base(4).snapshot(), query)
        self.must_raise(TooLarge, {"count": 2 ** 20}, plain_answer, Base(10).snapshot(), Query.read("x < y"))
        five = Query.read("a < 1, b < 1, c < 1, d < 1, e < 1")
        self.must_raise(TooLarge, {"count": 2 ** 50}, plain_answer, Base(10).snapshot(), five)
        query = Query.read("a < b, c < d, d < 16")
        self.must_raise(InvalidValue, {"value": 16}, plain_answer, Base(4).snapshot(), query)

    def test_too_large_before_too_old(self):
        base = Base(4)
        base.add_table("r", 4)
        source = base.snapshot()
        base.commit([("insert", "r", (0, 0, 0, 0), 0)])
        base.forget(1)
        self.must_raise(TooLarge, {"count": 2 ** 16}, plain_answer, source, Query.read("r(a,b,c,d)"))
        self.must_raise(TooOld, {"least": 1}, plain_answer, source, Query.read("r(a,b,c,c)"))

    def test_returned_lists_are_new(self):
        source, query = Base(1).snapshot(), Query.read("x <= x")
        one = plain_answer(source, query)
        one.clear()
        self.assertEqual([(0,), (1,)], plain_answer(source, query))


if __name__ == "__main__":
    unittest.main()
