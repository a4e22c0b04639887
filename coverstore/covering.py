"""Covers: finding, for a box, the number of a line whose box contains it, with new lines where they are needed."""

from coverstore.errors import TooMany
from coverstore.evaluating import failing_position, false_box, laid_over, values_at
from coverstore.lines import box_of_line, trimmed_lines
from coverstore.papers import Paper
from coverstore.queries import SIGNS
from coverstore.shelves import Shelf


def first_open(box):
    """The first place of a box whose range is not full."""
    return [len(part) < box.bits for part in box.ranges].index(True)


def line_at(source, query, point):
    """The line that tells why a point is not in the answer of a query at a source, or that it is."""
    literals = query.literals()
    position = failing_position(source, literals, query.variables, point)
    if position is None:
        return ("point", point)
    literal = literals[position]
    if literal[0] in SIGNS:
        return ("false", position, false_box(query, position, point, source.bits))
    key = values_at(literal, query.variables, point)
    if literal[0] == "none":
        return ("row", position, key)
    return ("gap", position, largest_gap(query, position, source.gaps(literal[1], key)))


def largest_gap(query, position, gaps):
    """The first gap of those that are laid over to the boxes with the most points."""
    sizes = [laid_over(query, position, gap).size for gap in gaps]
    return gaps[sizes.index(max(sizes))]


class Covering:
    """The lines so far of a paper of a query at a source, to which the covers of boxes append new ones."""

    def __init__(self, source, query, limit=None):
        self._source = source
        self._query = query
        self._limit = limit
        self._lines = []
        self._boxes = []
        self._probed = []
        self._shelf = Shelf()

    def append_line(self, line):
        """Append a line, which must be one at this place, and return its number."""
        number = len(self._lines)
        if self._limit is not None and number >= self._limit:
            raise TooMany("lines", self._limit)
        box = box_of_line(self._source.bits, self._query, self._boxes, line)
        self._lines.append(line)
        self._boxes.append(box)
        self._shelf.put(box, number)
        return number

    def cover(self, box):
        """The number of a line whose box contains a box."""
        earlier = self._shelf.all_around(box)
        if len(earlier) > 0:
            return min(earlier)
        if box.is_point:
            return self._probe(box.only_point())
        return self._cover_of_halves(box)

    def line_for(self, box):
        """The number of a line whose box is this one: that of its cover, or of a part line of it."""
        number = self.cover(box)
        if self._boxes[number] == box:
            return number
        return self.append_line(("part", number, box))

    def paper_for(self, box):
        """The paper of this covering whose closing box is this one."""
        return self.paper_of_line(self.line_for(box))

    def paper_of_line(self, number):
        """The paper of the lines that a line needs."""
        return Paper(self._source.bits, self._query, trimmed_lines(self._lines[:number + 1]))

    def probed_points(self):
        """The list of the points at which literals were looked up, in their sequence."""
        return list(self._probed)

    def _probe(self, point):
        self._probed.append(point)
        return self.append_line(line_at(self._source, self._query, point))

    def _cover_of_halves(self, box):
        place = first_open(box)
        lower = self.cover(box.half(place, 0))
        if box in self._boxes[lower]:
            return lower
        upper = self.cover(box.half(place, 1))
        if box in self._boxes[upper]:
            return upper
        return self.append_line(("join", lower, upper, place))
