"""Queries: literals over variables, and an order of the variables; and their texts."""

from coverstore.errors import InvalidQuery, InvalidText, WrongColumns
from coverstore.kinds import is_list, is_name, is_place
from coverstore.ranges import check_value

ROW_KINDS = ("row", "none")
SIGNS = ("<", "<=", "=", "!=")
MAX_TERMS = 4
MAX_DIGITS = 4
BEFORE_ORDER = " by "
BEFORE_DENIED = "not "


def fit(query, source):
    """Raise the error of the first literal of a query that does not fit a source."""
    for position, literal in enumerate(query.literals()):
        terms = terms_of(literal)
        if literal[0] in ROW_KINDS and source.columns(literal[1]) != len(terms):
            raise WrongColumns(position)
        check_integers(terms, source.bits)


def check_integers(terms, bits):
    """Raise InvalidValue for the first integer among terms that is not a value for these bits."""
    for term in terms:
        if not isinstance(term, str):
            check_value(term, bits)


def is_term(value):
    """Whether a value is a variable or an integer of a query."""
    return is_name(value) or is_place(value, Query.MAX_INTEGER + 1)


def are_terms(value):
    """Whether a value is a tuple of one to four terms."""
    if not isinstance(value, tuple) or not 1 <= len(value) <= MAX_TERMS:
        return False
    return all([is_term(element) for element in value])


def is_literal(value):
    """Whether a value is a literal."""
    if not isinstance(value, tuple) or len(value) != 3:
        return False
    kind, one, other = value
    if not isinstance(kind, str):
        return False
    if kind in ROW_KINDS:
        return is_name(one) and are_terms(other)
    if kind not in SIGNS or not is_term(one) or not is_term(other):
        return False
    return isinstance(one, str) or isinstance(other, str)


def terms_of(literal):
    """The terms of a literal, from left to right."""
    return literal[2] if literal[0] in ROW_KINDS else literal[1:]


def variables_of(literals):
    """The variables of literals, in the order of their first occurrence."""
    found = []
    for literal in literals:
        for term in terms_of(literal):
            if isinstance(term, str) and term not in found:
                found.append(term)
    return tuple(found)


def is_order_of(value, variables):
    """Whether a value is a tuple of all these variables, each once."""
    if not isinstance(value, tuple) or not all([isinstance(element, str) for element in value]):
        return False
    return sorted(value) == sorted(variables)


def problem_with(literals, order):
    """The problem and the position for which there is no such query, or None if there is one."""
    if not is_list(literals) or not 1 <= len(literals) <= Query.MAX_LITERALS:
        return "literals", -1
    for position, literal in enumerate(literals):
        if not is_literal(literal):
            return "literal", position
    variables = variables_of(literals)
    if len(variables) > Query.MAX_VARIABLES:
        return "variables", -1
    if order is not None and not is_order_of(order, variables):
        return "order", -1
    return None


def text_of(literal):
    """The text of a literal."""
    kind, one, other = literal
    if kind in SIGNS:
        return f"{one} {kind} {other}"
    inside = ",".join([str(term) for term in other])
    before = BEFORE_DENIED if kind == "none" else ""
    return f"{before}{one}({inside})"


def text_of_query(literals, variables):
    """The text of a query with these literals and this order."""
    text = ", ".join([text_of(literal) for literal in literals])
    if variables == variables_of(literals):
        return text
    names = ",".join(variables)
    return f"{text}{BEFORE_ORDER}{names}"


def read_literal(text):
    """The literal that has this text; for another text anything that has not this text or is no literal."""
    if text.startswith(BEFORE_DENIED):
        return read_row("none", text[len(BEFORE_DENIED):])
    if text.endswith(")"):
        return read_row("row", text)
    words = text.split(" ")
    if len(words) != 3:
        return None
    return words[1], read_term(words[0]), read_term(words[2])


def read_row(kind, text):
    """The positive or denied literal with this text behind the word that denies it."""
    table, _, inside = text.partition("(")
    return kind, table, tuple([read_term(word) for word in inside[:-1].split(",")])


def read_term(word):
    """The term with this text: what is not a number stays as it is."""
    if len(word) <= MAX_DIGITS and word.isascii() and word.isdigit():
        return int(word)
    return word


class Query:
    """Literals, and an order of their variables; it never changes."""

    MAX_LITERALS = 8
    MAX_VARIABLES = 5
    MAX_INTEGER = 1023

    def __init__(self, literals, order=None):
        found = problem_with(literals, order)
        if found is not None:
            problem, position = found
            raise InvalidQuery(problem, position)
        self._literals = tuple(literals)
        self._variables = variables_of(literals) if order is None else order

    @classmethod
    def read(cls, text):
        """The query that has this text."""
        if not isinstance(text, str):
            raise InvalidText(text)
        body, mark, names = text.partition(BEFORE_ORDER)
        literals = [read_literal(part) for part in body.split(", ")]
        order = tuple(names.split(",")) if mark != "" else None
        if problem_with(literals, order) is not None:
            raise InvalidText(text)
        query = cls(literals, order)
        # Reading is lenient about what the text of a query never has, such as leading zeros.
        if str(query) != text:
            raise InvalidText(text)
        return query

    @property
    def variables(self):
        """The variables, in the query's order."""
        return self._variables

    def literals(self):
        """The list of the literals."""
        return list(self._literals)

    def in_order(self, *variables):
        """The same literals with the variables in another order."""
        return Query(self._literals, variables)

    def __len__(self):
        return len(self._literals)

    def __eq__(self, other):
        return isinstance(other, Query) and self._literals == other._literals and self._variables == other._variables

    def __str__(self):
        return str(text_of_query(self._literals, self._variables))

    def __repr__(self):
        return f"Query({list(self._literals)!r}, {self._variables!r})"
