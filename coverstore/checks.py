"""Checks of papers at sources: whether their facts hold, and whether they show that an answer is complete."""

from coverstore.boxes import Box
from coverstore.errors import Unlike
from coverstore.evaluating import failing_position
from coverstore.kinds import is_list
from coverstore.lines import facts_of
from coverstore.papers import Paper
from coverstore.queries import fit
from coverstore.ranges import are_values


def accepts(source, query, answer, paper):
    """Whether a paper shows that a value is the answer of a query at a source."""
    fit(query, source)
    if not isinstance(paper, Paper) or paper.bits != source.bits or paper.query != query:
        return False
    if paper.closing != Box.whole(paper.bits, len(query.variables)):
        return False
    # Rows are looked up last, and only for a paper that is otherwise as it must be.
    return is_list_of_points(answer, paper) and first_wrong_line(source, paper) is None


def wrong_line(source, paper):
    """The number of the first line that is wrong at a source, or None."""
    check_paper(source, paper)
    return first_wrong_line(source, paper)


def check_paper(source, paper):
    """Raise the error of a paper that does not fit a source."""
    if paper.bits != source.bits:
        raise Unlike()
    fit(paper.query, source)


def first_wrong_line(source, paper):
    """The number of the first wrong line of a paper that fits the source, or None."""
    for number, line in enumerate(paper.lines()):
        if is_wrong(source, paper.query, line):
            return number
    return None


def is_wrong(source, query, line):
    """Whether a fact of a line does not hold at a source that the line's paper fits."""
    if line[0] == "point":
        return failing_position(source, query.literals(), query.variables, line[1]) is not None
    return not all([fact_holds(source, fact) for fact in facts_of(query, line)])


def fact_holds(source, fact):
    """Whether a fact holds at a source."""
    word, table, part = fact
    if word == "clear":
        return source.is_clear(table, part)
    return (source.payload(table, part) is not None) == (word == "present")


def is_list_of_points(answer, paper):
    """Whether a value is a list of exactly the points of a paper, in ascending order."""
    if not is_list(answer):
        return False
    # What equals a point, such as one with True for 1, need not be one.
    length = len(paper.closing)
    return all([are_values(element, length, paper.bits) for element in answer]) and list(answer) == paper.points()
