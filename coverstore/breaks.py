"""Breaks: when papers that are right at a version stop to be so, and which of their lines are broken at a source."""

from coverstore.checks import check_paper, is_wrong, wrong_line
from coverstore.errors import WrongLine
from coverstore.lines import facts_of


def paper_break(base, version, paper):
    """The first later version at which a fact of a paper that is right at a version does not hold, or None."""
    source = base.snapshot(version)
    wrong = wrong_line(source, paper)
    if wrong is not None:
        raise WrongLine(wrong)
    breaks = []
    for line in paper.lines():
        breaks.extend([fact_break(base, source.version, fact) for fact in facts_of(paper.query, line)])
    return min([since for since in breaks if since is not None], default=None)


def broken_lines(source, paper):
    """The sorted list of the numbers of the lines that are broken at a source."""
    check_paper(source, paper)
    return [number for number, line in enumerate(paper.lines()) if is_wrong(source, paper.query, line)]


def fact_break(base, version, fact):
    """The break of a fact that holds at a version, or None."""
    word, table, part = fact
    if word == "clear":
        return base.clear_break(table, part, version)
    return base.presence_break(table, part, version)
