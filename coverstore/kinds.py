"""Of which kind a value is: questions that are asked all over the package, for any value."""

MAX_NAME = 8
LARGEST_PAYLOAD = 1000000000
LETTERS = "abcdefghijklmnopqrstuvwxyz"
RESERVED_WORDS = ("not", "by")


def is_int(value):
    """Whether a value is an integer; True and False are none."""
    return isinstance(value, int) and not isinstance(value, bool)


def is_count(value):
    """Whether a value is a count."""
    return is_int(value) and value >= 0


def is_place(value, length):
    """Whether a value is one of the places of something with this length."""
    return is_int(value) and 0 <= value < length


def is_list(value):
    """Whether a value may stand where a list is asked for."""
    return isinstance(value, (list, tuple))


def is_name(value):
    """Whether a value is a name."""
    if not isinstance(value, str) or not 1 <= len(value) <= MAX_NAME:
        return False
    return value.strip(LETTERS) == "" and value not in RESERVED_WORDS


def is_payload(value):
    """Whether a value is a payload."""
    return is_int(value) and -LARGEST_PAYLOAD <= value <= LARGEST_PAYLOAD
