"""Bodies of the records of a durable store: the texts of changes, and the changes that have these texts.

What is read has None in place of each number that cannot be read. No ledger makes a change with a None in it.
"""

from coverstore.errors import InvalidText
from coverstore.numerals import read_decimal, read_signed, read_values, text_of_values
from coverstore.queries import Query

# No number in a record has more digits, but for versions, which are never read.
MAX_DIGITS = 10

NO_ORDERS = "-"


def bits_body(bits):
    """The body for the bits of a store."""
    return f"bits {bits}"


def table_body(name, columns, orders):
    """The body for a table; orders are those after the ascending one."""
    texts = [text_of_values(order) for order in orders]
    told = ";".join(texts) if len(texts) > 0 else NO_ORDERS
    return f"table {name} {columns} {told}"


def require_body(name, query):
    """The body for a constraint."""
    return f"require {name} {query}"


def commit_body(version, writes):
    """The body for a version that writes make."""
    told = "; ".join([text_of_write(write) for write in writes])
    return f"commit {version} {told}"


def text_of_write(write):
    """The text of a write."""
    kind, table, key = write[:3]
    words = [kind, table, text_of_values(key)] + [str(payload) for payload in write[3:]]
    return " ".join(words)


def read_bits(body):
    """The number in the body for bits, or None for another body."""
    word, _, number = body.partition(" ")
    return read_decimal(number, MAX_DIGITS) if word == "bits" else None


def read_table(body):
    """The (name, columns, further orders) in the body for a table, or None for another body."""
    words = body.split(" ")
    if len(words) != 4 or words[0] != "table":
        return None
    texts = words[3].split(";") if words[3] != NO_ORDERS else []
    orders = [read_values(text, MAX_DIGITS) for text in texts]
    return words[1], read_decimal(words[2], MAX_DIGITS), orders


def read_require(body):
    """The (name, query) in the body for a constraint, or None for another body."""
    words = body.split(" ", 2)
    if len(words) != 3 or words[0] != "require":
        return None
    try:
        return words[1], Query.read(words[2])
    except InvalidText:
        return None


def read_commit(body, version):
    """The list of the writes in the body for the version that they make, or None for another body."""
    start = f"commit {version} "
    if not body.startswith(start):
        return None
    return [read_write(text) for text in body[len(start):].split("; ")]


def read_write(text):
    """The write that has this text, or a tuple that is none."""
    words = text.split(" ")
    keys = [read_values(word, MAX_DIGITS) for word in words[2:3]]
    payloads = [read_signed(word, MAX_DIGITS) for word in words[3:]]
    return (*words[:2], *keys, *payloads)
