"""The present keys of a table at one moment, sorted for each order, so that few of them need a look."""

from coverstore.boxes import Box
from coverstore.ranges import bounds, range_of, widest_range


def rearranged(key, order):
    """The values of a key in the sequence of an order."""
    return tuple([key[column] for column in order])


def first_from(entries, start):
    """The number of the first entry whose rearranged key is not below start, a tuple of leading values."""
    low = 0
    high = len(entries)
    while low < high:
        middle = (low + high) // 2
        if entries[middle][0] < start:
            low = middle + 1
        else:
            high = middle
    return low


def span(entries, limits):
    """Where the entries begin and end that can lie within the limits, which are in the sequence of their order."""
    leading = []
    for low, high in limits:
        if low != high:
            break
        leading.append(low)
    # Where all columns have one value only, the last of them serves as the one that goes on from low to high.
    before = tuple(leading[:len(limits) - 1])
    low, high = limits[len(before)]
    return first_from(entries, before + (low,)), first_from(entries, before + (high + 1,))


def lies_within(key, limits):
    """Whether each value of a key lies between the two limits at its place."""
    for value, (low, high) in zip(key, limits):
        if not low <= value <= high:
            return False
    return True


def shared_columns(one, other):
    """The number of leading values that two rearranged keys have in common."""
    count = 0
    while count < len(one) and one[count] == other[count]:
        count += 1
    return count


class Rows:
    """The rows of a table at one moment; they never change."""

    def __init__(self, bits, orders, pairs):
        self._bits = bits
        self._orders = list(orders)
        self._payloads = {key: payload for key, payload in pairs}
        self._entries = {}

    def payload_of(self, key):
        """The payload of a key, or None if it is absent."""
        return self._payloads.get(key)

    def payloads(self):
        """A dict from the present keys to their payloads."""
        return {key: self._payloads[key] for key in self._payloads}

    def keys_within(self, box):
        """The sorted list of the present keys in a box of the columns."""
        limits = [bounds(part, self._bits) for part in box.ranges]
        return sorted([key for key in self._keys_to_look_at(limits) if lies_within(key, limits)])

    def gap_around(self, key, number):
        """The gap around an absent key, for the order with this number."""
        order = self._orders[number]
        moved = rearranged(key, order)
        near = self._neighbours(moved, number)
        shared = max([0] + [shared_columns(moved, other) for other in near])
        barred = [other[shared] for other in near if shared_columns(moved, other) == shared]
        ranges = [""] * len(key)
        for column in order[:shared]:
            ranges[column] = range_of(key[column], self._bits)
        ranges[order[shared]] = widest_range(moved[shared], self._bits, barred)
        return Box(self._bits, ranges)

    def _neighbours(self, moved, number):
        # No other present key shares more leading values with an absent one than the two beside it
        # in the sorted list, and none has a nearer value in the column that follows.
        entries = self._entries_for(number)
        at = first_from(entries, moved)
        return [other for other, _ in entries[max(0, at - 1):at + 1]]

    def _keys_to_look_at(self, limits):
        best = None
        for number, order in enumerate(self._orders):
            entries = self._entries_for(number)
            start, end = span(entries, [limits[column] for column in order])
            if best is None or end - start < len(best):
                best = entries[start:end]
        return [key for _, key in best]

    def _entries_for(self, number):
        # Most tables are only asked for some keys, so a sorted list is made when it is needed first.
        if number not in self._entries:
            order = self._orders[number]
            self._entries[number] = sorted([(rearranged(key, order), key) for key in self._payloads])
        return self._entries[number]
