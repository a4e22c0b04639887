"""What the literals of a query say at a point, in a box, and of a source."""

from coverstore.boxes import Box
from coverstore.errors import Holds, InvalidPlace, InvalidPoint, TooLarge
from coverstore.judging import check_length
from coverstore.kinds import is_place
from coverstore.queries import ROW_KINDS, SIGNS, check_integers, fit, terms_of
from coverstore.ranges import MAX_BITS, are_values, bounds, check_bits, longer_range, range_of, shared_digits

MAX_POINTS = 2 ** 15


def key_at(query, position, point):
    """The key that the terms of a positive or denied literal make at a point."""
    literal = literal_at(query, position, ROW_KINDS)
    # The integers that a query may contain are the values for the most bits.
    check_point(query, point, MAX_BITS)
    return values_at(literal, query.variables, point)


def laid_over(query, position, box):
    """The box of the variables over which a positive or denied literal lays a box of columns, or None."""
    terms = terms_of(literal_at(query, position, ROW_KINDS))
    check_length(box, len(terms))
    check_integers(terms, box.bits)
    laid = {}
    for term, part in zip(terms, box.ranges):
        if isinstance(term, str):
            laid[term] = longer_range(laid.get(term, ""), part)
            if laid[term] is None:
                return None
        elif not range_of(term, box.bits).startswith(part):
            return None
    return box_of_variables(query, laid, box.bits)


def false_box(query, position, point, bits):
    """The false box of a comparison around a point at which it is false."""
    check_bits(bits)
    comparison = literal_at(query, position, SIGNS)
    check_point(query, point, bits)
    sign, one, other = comparison
    check_integers((one, other), bits)
    left, right = values_at(comparison, query.variables, point)
    if compares(sign, left, right):
        raise Holds(position)
    if one == other:
        return Box.whole(bits, len(query.variables))
    if isinstance(one, str) and isinstance(other, str):
        length = shared_digits(left, right, bits) + 1
        ranges = {one: range_of(left, bits)[:length], other: range_of(right, bits)[:length]}
    elif isinstance(one, str):
        ranges = {one: widest_false_range(comparison, one, left, bits)}
    else:
        ranges = {other: widest_false_range(comparison, other, right, bits)}
    return box_of_variables(query, ranges, bits)


def is_false_in(query, position, box):
    """Whether a comparison is false at all points of a box of the variables."""
    comparison = literal_at(query, position, SIGNS)
    check_length(box, len(query.variables))
    check_integers(terms_of(comparison), box.bits)
    ranges = {name: part for name, part in zip(query.variables, box.ranges)}
    return is_never_true(comparison, ranges, box.bits)


def literal_holds(source, query, position, point):
    """Whether a literal holds at a point of a source."""
    fit(query, source)
    literal = literal_at(query, position, ROW_KINDS + SIGNS)
    check_point(query, point, source.bits)
    return is_true(source, literal, query.variables, point)


def first_failing(source, query, point):
    """The position of the first literal that does not hold at a point of a source, or None if all hold."""
    fit(query, source)
    check_point(query, point, source.bits)
    return failing_position(source, query.literals(), query.variables, point)


def plain_answer(source, query):
    """The answer of a query at a source, by looking at all points."""
    fit(query, source)
    variables = query.variables
    space = Box.whole(source.bits, len(variables))
    if space.size > MAX_POINTS:
        raise TooLarge(space.size)
    literals = query.literals()
    answer = []
    for point in space.each_point():
        if failing_position(source, literals, variables, point) is None:
            answer.append(point)
    return answer


def literal_at(query, position, kinds):
    """The literal at a position, which must be of one of these kinds."""
    literals = query.literals()
    if not is_place(position, len(literals)) or literals[position][0] not in kinds:
        raise InvalidPlace(position)
    return literals[position]


def check_point(query, point, bits):
    """Raise InvalidPoint for what is no point of a query for these bits."""
    if not are_values(point, len(query.variables), bits):
        raise InvalidPoint(point)


def values_at(literal, variables, point):
    """The terms of a literal with the values of a point in place of the variables."""
    return tuple([point[variables.index(term)] if isinstance(term, str) else term for term in terms_of(literal)])


def box_of_variables(query, ranges, bits):
    """The box with these ranges for some variables, and the empty range for all others."""
    return Box(bits, [ranges.get(name, "") for name in query.variables])


def compares(sign, one, other):
    """Whether a comparison of two values is true."""
    if sign == "<":
        return one < other
    if sign == "<=":
        return one <= other
    if sign == "=":
        return one == other
    return one != other


def is_never_true(comparison, ranges, bits):
    """Whether a comparison is false for all values in the ranges of its variables."""
    sign, one, other = comparison
    if one == other:
        return not compares(sign, 0, 0)
    low, high = limits_of_term(one, ranges, bits)
    least, most = limits_of_term(other, ranges, bits)
    if sign == "<":
        return low >= most
    if sign == "<=":
        return low > most
    if sign == "=":
        return high < least or most < low
    return low == high == least == most


def limits_of_term(term, ranges, bits):
    """The least and the greatest value that a term can have."""
    return bounds(ranges[term], bits) if isinstance(term, str) else (term, term)


def widest_false_range(comparison, variable, value, bits):
    """The shortest range around a value of the only variable in which a comparison, false there, is never true."""
    digits = range_of(value, bits)
    length = 0
    while not is_never_true(comparison, {variable: digits[:length]}, bits):
        length += 1
    return digits[:length]


def is_true(source, literal, variables, point):
    """Whether a literal that fits a source holds at a valid point."""
    values = values_at(literal, variables, point)
    if literal[0] in SIGNS:
        return compares(literal[0], values[0], values[1])
    is_present = source.payload(literal[1], values) is not None
    return is_present == (literal[0] == "row")


def failing_position(source, literals, variables, point):
    """The position of the first literal that does not hold, or None; all of them fit, and the point is valid."""
    for position, literal in enumerate(literals):
        if not is_true(source, literal, variables, point):
            return position
    return None
