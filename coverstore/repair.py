"""Repairing papers: only their broken parts are looked at again."""

from coverstore.checks import check_paper, is_wrong
from coverstore.covering import Covering
from coverstore.lines import renumbered


class Repair:
    """A repaired paper, and what became of the points; made by repaired alone, it never changes."""

    def __init__(self, paper, lost, found, probed):
        self._paper = paper
        self._lost = list(lost)
        self._found = list(found)
        self._probed = list(probed)

    @property
    def paper(self):
        """The repaired paper."""
        return self._paper

    @property
    def is_changed(self):
        """Whether a point was lost or found."""
        return len(self._lost) + len(self._found) > 0

    def lost(self):
        """The sorted list of the points of the old paper that are no points any more."""
        return list(self._lost)

    def found(self):
        """The sorted list of the points that the old paper does not have."""
        return list(self._found)

    def probed(self):
        """The list of the points at which literals were looked up, in their sequence."""
        return list(self._probed)


def repaired(source, paper):
    """The repair of a paper at a source."""
    check_paper(source, paper)
    old = paper.trimmed()
    broken = {number: True for number, line in enumerate(old.lines()) if is_wrong(source, paper.query, line)}
    # Without broken lines all lines would get the numbers that they have.
    if len(broken) == 0:
        return Repair(old, [], [], [])
    covering = Covering(source, paper.query)
    lost = {}
    numbers = []
    for number, line in enumerate(old.lines()):
        if number not in broken:
            numbers.append(covering.append_line(renumbered(line, numbers)))
            continue
        if line[0] == "point":
            lost[line[1]] = True
        numbers.append(covering.line_for(old.box(number)))
    new = covering.paper_of_line(numbers[-1])
    had = {point: True for point in old.points()}
    found = [point for point in new.points() if point not in had]
    return Repair(new, sorted(list(lost)), found, covering.probed_points())
