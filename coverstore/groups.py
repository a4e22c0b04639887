"""Groups of the points of an answer, and what is counted, added up or compared in them."""

from coverstore.errors import InvalidGroups, InvalidPoint, NoSuchRow
from coverstore.evaluating import check_point, key_at
from coverstore.kinds import is_list, is_place
from coverstore.queries import fit

WORDS = ("count", "sum", "least", "greatest")


def are_some_of(value, variables):
    """Whether a value is a tuple of some of these variables, each at most once."""
    if not isinstance(value, tuple) or not all([isinstance(element, str) for element in value]):
        return False
    return all([value.count(element) == 1 and element in variables for element in value])


def can_be_measured(query, what, of):
    """Whether there is such a result of what a variable or a positive literal has at the points of a query."""
    if what == "count":
        return of is None
    if isinstance(of, str):
        return of in query.variables
    return is_place(of, len(query)) and query.literals()[of][0] == "row"


def result_of(what, amounts):
    """The result of a group with these amounts, one for each of its points."""
    if what == "count":
        return len(amounts)
    if what == "sum":
        return sum(amounts)
    return min(amounts) if what == "least" else max(amounts)


def check_points(query, points, bits):
    """Raise InvalidPoint for what is no list of different points of a query."""
    if not is_list(points):
        raise InvalidPoint(-1)
    earlier = {}
    for point in points:
        check_point(query, point, bits)
        if point in earlier:
            raise InvalidPoint(point)
        earlier[point] = True


class Grouping:
    """How the points of a query are grouped; it never changes."""

    def __init__(self, query, by=(), what="count", of=None):
        if not are_some_of(by, query.variables):
            raise InvalidGroups("by")
        if not isinstance(what, str) or what not in WORDS:
            raise InvalidGroups("what")
        if not can_be_measured(query, what, of):
            raise InvalidGroups("of")
        self._query = query
        self._by = by
        self._what = what
        self._of = of

    @property
    def by(self):
        """The variables that name the groups, a tuple."""
        return self._by

    @property
    def what(self):
        """The word for the results."""
        return self._what

    @property
    def of(self):
        """The variable, or the position of the literal, of which the results are; None for "count"."""
        return self._of

    def results(self, source, points):
        """A dict from the names of the groups of these points, in ascending order, to their results."""
        fit(self._query, source)
        check_points(self._query, points, source.bits)
        amounts = {}
        for point in points:
            name = tuple([self._value(variable, point) for variable in self._by])
            amounts.setdefault(name, []).append(self._amount(source, point))
        return {name: result_of(self._what, amounts[name]) for name in sorted(list(amounts))}

    def __eq__(self, other):
        if not isinstance(other, Grouping) or self._query != other._query:
            return False
        return self._by == other._by and self._what == other._what and self._of == other._of

    def _value(self, variable, point):
        return point[self._query.variables.index(variable)]

    def _amount(self, source, point):
        if self._what == "count":
            return 1
        if isinstance(self._of, str):
            return self._value(self._of, point)
        key = key_at(self._query, self._of, point)
        table = self._query.literals()[self._of][1]
        payload = source.payload(table, key)
        if payload is None:
            raise NoSuchRow(table, key)
        return payload
