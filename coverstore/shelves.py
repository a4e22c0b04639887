"""Shelves: boxes that are kept so that those around another box are found quickly."""

# Stands behind the last range of a box in a shelf, where it cannot be taken for a range.
NUMBER = "number"


class Shelf:
    """Numbers of boxes of one length, range by range in a tree."""

    def __init__(self):
        self._root = {}

    def put(self, box, number):
        """Put in a box with its number; of equal boxes the first one counts."""
        node = self._root
        for part in box.ranges:
            node = node.setdefault(part, {})
        node.setdefault(NUMBER, number)

    def all_around(self, box):
        """The list of the numbers of the boxes that contain this one, in no particular sequence."""
        nodes = [self._root]
        for part in box.ranges:
            stems = [part[:length] for length in range(len(part) + 1)]
            nodes = [node[stem] for node in nodes for stem in stems if stem in node]
        return [node[NUMBER] for node in nodes if NUMBER in node]
