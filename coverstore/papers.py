"""Papers: lists of lines in which boxes without points of an answer, and its points, are joined step by step."""

from coverstore.errors import InvalidPaper, InvalidPlace, InvalidText
from coverstore.kinds import is_list, is_place
from coverstore.lines import box_of_line, needed_numbers, read_line, text_of_line, trimmed_lines
from coverstore.ranges import check_bits


def boxes_of_lines(bits, query, lines):
    """The boxes of all lines; raise InvalidPaper for the first one that is no line at its place."""
    boxes = []
    for position, line in enumerate(lines):
        box = box_of_line(bits, query, boxes, line)
        if box is None:
            raise InvalidPaper(position)
        boxes.append(box)
    return boxes


class Paper:
    """One or more lines over the variables of a query; it never changes."""

    def __init__(self, bits, query, lines):
        check_bits(bits)
        if not is_list(lines) or len(lines) == 0:
            raise InvalidPaper(-1)
        self._boxes = boxes_of_lines(bits, query, lines)
        self._bits = bits
        self._query = query
        self._lines = list(lines)
        self._needed = needed_numbers(self._lines)

    @classmethod
    def read(cls, bits, query, text):
        """The paper with these bits and this query that has this text."""
        check_bits(bits)
        if not isinstance(text, str):
            raise InvalidText(text)
        # What stands behind the last line feed is no line; the comparison below sees whether it is empty.
        lines = [read_line(bits, part) for part in text.split("\n")[:-1]]
        try:
            paper = cls(bits, query, lines)
        except InvalidPaper:
            raise InvalidText(text) from None
        # Reading is lenient about what the text of a paper never has, such as leading zeros.
        if str(paper) != text:
            raise InvalidText(text)
        return paper

    @property
    def bits(self):
        """The number of digits of each value."""
        return self._bits

    @property
    def query(self):
        """The query over whose variables the boxes are."""
        return self._query

    @property
    def closing(self):
        """The closing box, that of the last line."""
        return self._boxes[-1]

    @property
    def is_trimmed(self):
        """Whether all lines are needed."""
        return len(self._needed) == len(self._lines)

    def lines(self):
        """The list of the lines."""
        return list(self._lines)

    def box(self, number):
        """The box of the line with this number."""
        if not is_place(number, len(self._boxes)):
            raise InvalidPlace(number)
        return self._boxes[number]

    def points(self):
        """The sorted list of the values of the point lines, each once."""
        return sorted(set([line[1] for line in self._lines if line[0] == "point"]))

    def needed(self):
        """The sorted list of the numbers of the lines that are needed."""
        return list(self._needed)

    def trimmed(self):
        """The paper that has only the needed lines."""
        return Paper(self._bits, self._query, trimmed_lines(self._lines))

    def __len__(self):
        return len(self._lines)

    def __eq__(self, other):
        if not isinstance(other, Paper):
            return False
        return self._bits == other._bits and self._query == other._query and self._lines == other._lines

    def __str__(self):
        return "".join([f"{text_of_line(line)}\n" for line in self._lines])

    def __repr__(self):
        return f"Paper({self._bits}, {self._query!r}, {self._lines!r})"
