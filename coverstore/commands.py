"""Commands of a desk: their forms, and the values that stand in them."""

from coverstore.numerals import read_decimal, read_signed, read_values

MAX_DIGITS = 10
EMPTY_POINT = "()"

# The parts of each command behind its word; some commands have several forms.
FORMS = {
    "table": (("word", "integer"),),
    "require": (("word", "query"),),
    "keep": (("word", "query"),),
    "forget": (("integer",),),
    "begin": ((),),
    "insert": (("transaction", "word", "key", "payload"),),
    "update": (("transaction", "word", "key", "payload"),),
    "delete": (("transaction", "word", "key"),),
    "abandon": (("transaction",),),
    "ask": (("transaction", "query"),),
    "told": (("word",), ("word", "integer")),
    "commit": (("transaction",),),
    "version": ((),),
    "why": (("word", "point"),),
}


def read_command(command):
    """The word of a command and the list of the (kind, value) of its parts, or None for what is no command."""
    if not isinstance(command, str):
        return None
    word = command.split(" ")[0]
    for form in FORMS.get(word, ()):
        values = values_in(command, form)
        if values is not None:
            return word, list(zip(form, values))
    return None


def values_in(command, form):
    """The list of the values of the parts of a command that has this form, or None."""
    # A query is the rest of the command, with all its spaces.
    words = command.split(" ", len(form)) if "query" in form else command.split(" ")
    if len(words) != len(form) + 1:
        return None
    values = [read_part(kind, word) for kind, word in zip(form, words[1:])]
    return None if None in values else values


def read_part(kind, text):
    """The value of a part of this kind with this text, or None if there is none."""
    if kind in ("word", "query"):
        return text if text != "" else None
    if kind == "payload":
        return read_signed(text, MAX_DIGITS)
    if kind == "point" and text == EMPTY_POINT:
        return ()
    if kind in ("key", "point"):
        return read_values(text, MAX_DIGITS)
    return read_decimal(text, MAX_DIGITS)
