"""Papers and repairs made slowly, written down straight from the document, with which the quick ones are compared.

Boxes are tuples of ranges here, and lines are the tuples of the document with such boxes in them.
"""

import itertools
import operator

from coverstore.boxes import Box
from coverstore.errors import InvalidPaper
from coverstore.papers import Paper

from helpers import digits_of

SIGNS = {"<": operator.lt, "<=": operator.le, "=": operator.eq, "!=": operator.ne}


def is_inside(one, other):
    return all(mine.startswith(theirs) for mine, theirs in zip(one, other))


def put_in(literal, variables, point):
    """The terms of a literal with the values of a point in place of the variables."""
    values = dict(zip(variables, point))
    terms = literal[2] if literal[0] in ("row", "none") else literal[1:]
    return tuple(values.get(term, term) for term in terms)


def lay(bits, query, position, ranges):
    """A box of columns laid over the variables, or None."""
    found = {name: [""] for name in query.variables}
    for term, part in zip(query.literals()[position][2], ranges):
        if isinstance(term, int):
            if not digits_of(term, bits).startswith(part):
                return None
        else:
            found[term].append(part)
    for parts in found.values():
        if not all(one.startswith(other) or other.startswith(one) for one in parts for other in parts):
            return None
    return tuple(max(found[name], key=len) for name in query.variables)


def false_box(bits, query, position, point):
    sign, *terms = query.literals()[position]
    one, other = put_in(query.literals()[position], query.variables, point)
    ranges = dict.fromkeys(query.variables, "")
    names = [term for term in terms if isinstance(term, str)]
    if len(names) == 1:
        value = one if terms[0] == names[0] else other
        for length in range(bits, -1, -1):
            inside = [number for number in range(2 ** bits)
                      if digits_of(number, bits).startswith(digits_of(value, bits)[:length])]
            if any(SIGNS[sign](*((number, other) if terms[0] == names[0] else (one, number))) for number in inside):
                break
            ranges[names[0]] = digits_of(value, bits)[:length]
    elif names[0] != names[1]:
        first, second = digits_of(one, bits), digits_of(other, bits)
        shared = next((at for at in range(bits) if first[at] != second[at]), bits)
        ranges[names[0]], ranges[names[1]] = first[:shared + 1], second[:shared + 1]
    return tuple(ranges[name] for name in query.variables)


class SlowPaper:
    """The lines so far for a query at a version of a model."""

    def __init__(self, model, version, query):
        self.model, self.version, self.query, self.bits = model, version, query, model.bits
        self.lines, self.boxes, self.probed = [], [], []

    def append(self, line, box):
        self.lines.append(line)
        self.boxes.append(box)
        return len(self.lines) - 1

    def first_failing(self, point):
        for position, literal in enumerate(self.query.literals()):
            values = put_in(literal, self.query.variables, point)
            if literal[0] in SIGNS:
                holds = SIGNS[literal[0]](*values)
            else:
                holds = (self.model.payload(literal[1], values, self.version) is not None) == (literal[0] == "row")
            if not holds:
                return position
        return None

    def probe(self, ranges):
        point = tuple(int(part, 2) for part in ranges)
        self.probed.append(point)
        position = self.first_failing(point)
        if position is None:
            return self.append(("point", point), ranges)
        kind, table, _ = self.query.literals()[position]
        if kind in SIGNS:
            box = false_box(self.bits, self.query, position, point)
            return self.append(("false", position, box), box)
        key = put_in(self.query.literals()[position], self.query.variables, point)
        if kind == "none":
            full = tuple(digits_of(value, self.bits) for value in key)
            return self.append(("row", position, key), lay(self.bits, self.query, position, full))
        best = None
        for number in range(len(self.model.forms[table])):
            gap = self.model.gap(table, key, number, self.version).ranges
            laid = lay(self.bits, self.query, position, gap)
            # The more digits its ranges have together, the fewer points a box has.
            if best is None or len("".join(laid)) < len("".join(best[1])):
                best = gap, laid
        return self.append(("gap", position, best[0]), best[1])

    def cover(self, ranges):
        for number, box in enumerate(self.boxes):
            if is_inside(ranges, box):
                return number
        if all(len(part) == self.bits for part in ranges):
            return self.probe(ranges)
        place = next(at for at, part in enumerate(ranges) if len(part) < self.bits)
        stem = ranges[place]
        halves = []
        for digit in "01":
            half = self.cover(ranges[:place] + (stem + digit,) + ranges[place + 1:])
            if is_inside(ranges, self.boxes[half]):
                return half
            halves.append(half)
        longest = [max(pair, key=len) for pair in zip(self.boxes[halves[0]], self.boxes[halves[1]])]
        longest[place] = stem
        return self.append(("join", halves[0], halves[1], place), tuple(longest))

    def line_for(self, ranges):
        number = self.cover(ranges)
        if self.boxes[number] != ranges:
            number = self.append(("part", number, ranges), ranges)
        return number

    def needed(self, last):
        needed = {last}
        while True:
            named = {number for at in needed for number in names(self.lines[at])}
            if named <= needed:
                return sorted(needed)
            needed |= named

    def trimmed(self, last):
        """The lines that a line needs, with boxes as the package has them."""
        kept = self.needed(last)
        return [self.with_boxes(renamed(self.lines[at], kept.index)) for at in kept]

    def with_boxes(self, line):
        return line[:-1] + (Box(self.bits, line[-1]),) if line[0] in ("gap", "false", "part") else line


def names(line):
    """The numbers that a line names."""
    return {"join": line[1:3], "part": line[1:2]}.get(line[0], ())


def renamed(line, numbers):
    """The line with other numbers for the lines that it names."""
    count = len(names(line))
    return line[:1] + tuple(numbers(number) for number in line[1:1 + count]) + line[1 + count:]


def slow_paper(model, version, query, ranges=None):
    """The lines of the paper, their number before trimming, and the probed points."""
    slow = SlowPaper(model, version, query)
    last = slow.line_for(("",) * len(query.variables) if ranges is None else ranges)
    return slow.trimmed(last), len(slow.lines), slow.probed


def slow_best_order(model, version, query):
    """The first order whose paper has the fewest lines."""
    orders = list(itertools.permutations(query.variables))
    return min(orders, key=lambda order: len(slow_paper(model, version, query.in_order(*order))[0]))


def plain(model, version, query):
    """The answer, by looking at all points."""
    slow = SlowPaper(model, version, query)
    points = itertools.product(range(2 ** model.bits), repeat=len(query.variables))
    return [point for point in points if slow.first_failing(point) is None]


def is_broken(model, version, query, line):
    """Whether a fact of a line does not hold at a version."""
    if line[0] == "gap":
        return model.keys_in(query.literals()[line[1]][1], line[2], version) != []
    if line[0] == "row":
        return model.payload(query.literals()[line[1]][1], line[2], version) is None
    if line[0] == "point":
        return SlowPaper(model, version, query).first_failing(line[1]) is not None
    return False


def slow_repair(model, version, paper):
    """The lines of the repaired paper, the lost points, the found points, the probed points."""
    query = paper.query
    old, new = SlowPaper(model, version, query), SlowPaper(model, version, query)
    for number, line in enumerate(paper.lines()):
        old.append(line, paper.box(number).ranges)
    numbers, lost, kept = {}, set(), old.needed(len(paper) - 1)
    for at in kept:
        line, ranges = old.lines[at], old.boxes[at]
        if not is_broken(model, version, query, line):
            if line[0] in ("gap", "false", "part"):
                line = line[:-1] + (line[-1].ranges,)
            numbers[at] = new.append(renamed(line, numbers.get), ranges)
            continue
        if line[0] == "point":
            lost.add(line[1])
        numbers[at] = new.line_for(ranges)
    lines = new.trimmed(numbers[kept[-1]])
    points = {line[1] for line in lines if line[0] == "point"}
    had = {old.lines[at][1] for at in kept if old.lines[at][0] == "point"}
    return lines, sorted(lost), sorted(points - had), new.probed


def slow_break(model, version, paper):
    """The first later version at which a line is broken, or None."""
    return next((
        later for later in range(version + 1, len(model.versions))
        if any(is_broken(model, later, paper.query, line) for line in paper.lines())), None)


def first_broken(model, version, paper):
    """The number of the first line that is broken at a version, or None."""
    return next((at for at, line in enumerate(paper.lines()) if is_broken(model, version, paper.query, line)), None)


def some_paper(numbers, bits, query, lines, more):
    """A paper with these lines, and so many further ones, of any kind, among them and behind them."""
    width = len(query.variables)

    def some_box(length):
        return Box(bits, ["".join(numbers.one_of("01") for _ in range(numbers.below(bits + 1))) for _ in range(length)])

    def some_values(length):
        return tuple(numbers.below(2 ** bits) for _ in range(length))

    def some_line(count):
        position = numbers.below(len(query))
        kind, _, terms = query.literals()[position]
        if kind in ("row", "none") and numbers.below(3) == 0:
            part = some_box(len(terms)) if kind == "row" else some_values(len(terms))
            return "gap" if kind == "row" else "row", position, part
        return numbers.one_of([
            ("false", position, some_box(width)), ("point", some_values(width)),
            ("join", numbers.below(count), numbers.below(count), numbers.below(max(1, width))),
            ("part", numbers.below(count), some_box(width)), ("part", count - 1, some_box(width)),
        ])

    while more > 0:
        at = numbers.below(len(lines)) + 1 if numbers.below(3) else len(lines)
        moved = [renamed(line, lambda number: number + (number >= at)) for line in lines[at:]]
        changed = lines[:at] + [some_line(at)] + moved
        try:
            Paper(bits, query, changed)
        except InvalidPaper:
            continue
        lines, more = changed, more - 1
    return Paper(bits, query, lines)
