"""Reasons: why a point is in an answer or not, and what writes would change in the answers that are kept."""

from coverstore.errors import InvalidPoint, IsAnswer, NotAnswer
from coverstore.evaluating import key_at
from coverstore.overlays import Overlay
from coverstore.queries import ROW_KINDS
from coverstore.ranges import are_values
from coverstore.repair import repaired


def why(paper, point):
    """The list of (position, key) of the positive and denied literals at a point of a paper."""
    # What equals a point, such as one with True for 1, need not be one.
    if not are_values(point, len(paper.closing), paper.bits) or point not in paper.points():
        raise NotAnswer(point)
    literals = paper.query.literals()
    positions = [position for position, literal in enumerate(literals) if literal[0] in ROW_KINDS]
    return [(position, key_at(paper.query, position, point)) for position in positions]


def why_not(paper, point):
    """The (number of the line, position of its literal) that tell why a point is not in the answer of a paper."""
    if not paper.closing.holds(point):
        raise InvalidPoint(point)
    if point in paper.points():
        raise IsAnswer(point)
    lines = paper.lines()
    number = len(lines) - 1
    while lines[number][0] in ("join", "part"):
        number = next_around(paper, lines[number], point)
    return number, lines[number][1]


def next_around(paper, line, point):
    """The first line that a join or a part line names and whose box contains a point of its own box."""
    if line[0] == "join" and not paper.box(line[1]).holds(point):
        return line[2]
    return line[1]


def what_if(keeper, writes):
    """The list of (name, lost points, found points) of the kept queries whose answers these writes would change."""
    newest = keeper.snapshot()
    overlay = Overlay(newest, writes)
    changes = []
    for name in keeper.names():
        now = repaired(newest, keeper.kept_paper(name)).paper
        repair = repaired(overlay, now)
        if repair.is_changed:
            changes.append((name, repair.lost(), repair.found()))
    return changes
