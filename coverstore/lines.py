"""Lines of papers: their boxes, the lines that they name, their facts and their texts."""

from coverstore.boxes import Box
from coverstore.errors import InvalidText, NotJoined
from coverstore.evaluating import is_false_in, laid_over, values_at
from coverstore.kinds import is_place
from coverstore.queries import ROW_KINDS, SIGNS, terms_of
from coverstore.ranges import are_values, is_value

# What stands behind the word of each kind of line.
PARTS = {
    "gap": ("number", "box"),
    "row": ("number", "values"),
    "false": ("number", "box"),
    "point": ("values",),
    "join": ("number", "number", "number"),
    "part": ("number", "box"),
}

# No position, place, value or number of a line has more digits; longer ones need not be read.
MAX_DIGITS = 9


def is_like_a_line(value):
    """Whether a value is a tuple of the word of a kind and as many parts as this kind has."""
    if not isinstance(value, tuple) or len(value) == 0 or not isinstance(value[0], str):
        return False
    return value[0] in PARTS and len(value) == len(PARTS[value[0]]) + 1


def is_box_like(value, bits, length):
    """Whether a value is a box for these bits with so many ranges."""
    return isinstance(value, Box) and value.bits == bits and len(value) == length


def box_of_line(bits, query, boxes, line):
    """The box of a line that follows lines with these boxes, or None for what is no line there."""
    if not is_like_a_line(line):
        return None
    kind = line[0]
    if kind == "point":
        return box_of_point(bits, query, line[1])
    if kind == "join":
        return box_of_join(boxes, line[1], line[2], line[3])
    if kind == "part":
        return box_of_part(boxes, line[1], line[2])
    return box_at_literal(bits, query, line)


def box_of_point(bits, query, values):
    """The point box of the values of a point line, or None."""
    if not are_values(values, len(query.variables), bits):
        return None
    return Box.at(bits, *values)


def box_of_join(boxes, first, second, place):
    """The join of two earlier boxes, or None."""
    if not is_place(first, len(boxes)) or not is_place(second, len(boxes)):
        return None
    if not is_place(place, len(boxes[first])):
        return None
    try:
        return boxes[first].joined(boxes[second], place)
    except NotJoined:
        return None


def box_of_part(boxes, number, box):
    """The box of a part line, which must lie inside an earlier one, or None."""
    if not is_place(number, len(boxes)) or box not in boxes[number]:
        return None
    return box


def box_at_literal(bits, query, line):
    """The box of a line that names the position of a literal, or None."""
    kind, position, part = line
    if not is_place(position, len(query)):
        return None
    literal = query.literals()[position]
    terms = terms_of(literal)
    if not all([isinstance(term, str) or is_value(term, bits) for term in terms]):
        return None
    if kind == "gap" and literal[0] == "row" and is_box_like(part, bits, len(terms)):
        return laid_over(query, position, part)
    if kind == "row" and literal[0] == "none" and are_values(part, len(terms), bits):
        return laid_over(query, position, Box.at(bits, *part))
    if kind == "false" and literal[0] in SIGNS and is_box_like(part, bits, len(query.variables)):
        return part if is_false_in(query, position, part) else None
    return None


def named_by(line):
    """The numbers of the lines that a line names."""
    if line[0] == "join":
        return line[1:3]
    return line[1:2] if line[0] == "part" else ()


def renumbered(line, numbers):
    """A line that names the new numbers of the lines that it named."""
    if line[0] == "join":
        return ("join", numbers[line[1]], numbers[line[2]], line[3])
    if line[0] == "part":
        return ("part", numbers[line[1]], line[2])
    return line


def needed_numbers(lines):
    """The sorted list of the numbers of the lines that the last one needs, itself included."""
    is_needed = [False] * len(lines)
    is_needed[-1] = True
    for number in range(len(lines) - 1, -1, -1):
        if is_needed[number]:
            for named in named_by(lines[number]):
                is_needed[named] = True
    return [number for number in range(len(lines)) if is_needed[number]]


def trimmed_lines(lines):
    """The lines that the last one needs, with their numbers adapted."""
    kept = needed_numbers(lines)
    numbers = {number: place for place, number in enumerate(kept)}
    return [renumbered(lines[number], numbers) for number in kept]


def facts_of(query, line):
    """The facts of a line: tuples of a word, a table, and a box that is clear or a key that is present or absent."""
    literals = query.literals()
    if line[0] == "gap":
        return [("clear", literals[line[1]][1], line[2])]
    if line[0] == "row":
        return [("present", literals[line[1]][1], line[2])]
    if line[0] == "point":
        return [fact_at_point(query, literal, line[1]) for literal in literals if literal[0] in ROW_KINDS]
    return []


def fact_at_point(query, literal, point):
    """What a positive or denied literal that holds at a point says of its key."""
    word = "present" if literal[0] == "row" else "absent"
    return word, literal[1], values_at(literal, query.variables, point)


def is_hit(query, line, table, key):
    """Whether a key of a table occurs in a fact of a line."""
    return any([named == table and has_key(part, key) for _, named, part in facts_of(query, line)])


def has_key(part, key):
    """Whether the box or the key of a fact contains, or is, a key."""
    return part.holds(key) if isinstance(part, Box) else part == key


def text_of_line(line):
    """The text of a line, without the line feed."""
    return " ".join([line[0]] + [text_of_part(part) for part in line[1:]])


def text_of_part(part):
    """The text of a number, a box or the values of a key or a point."""
    if not isinstance(part, tuple):
        return str(part)
    return ",".join([str(value) for value in part]) if len(part) > 0 else "-"


def read_line(bits, text):
    """The line that has this text; for another text anything that has not this text or is no line."""
    words = text.split(" ")
    kind = words[0]
    if kind not in PARTS:
        return None
    # Words that are left over are missing in the text of the line that is read.
    parts = [read_part(bits, meant, word) for meant, word in zip(PARTS[kind], words[1:])]
    return (kind, *parts)


def read_part(bits, meant, word):
    """The number, the values or the box that a word is the text of; something else, or None, for another word."""
    if meant == "number":
        return read_number(word)
    if meant == "values":
        return tuple([read_number(digits) for digits in word.split(",")]) if word != "-" else ()
    try:
        return Box.read(bits, word)
    except InvalidText:
        return None


def read_number(word):
    """The number that a word is the text of, perhaps with leading zeros, or None."""
    if len(word) > MAX_DIGITS or not word.isascii() or not word.isdigit():
        return None
    return int(word)
