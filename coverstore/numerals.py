"""Numerals: the texts of integers."""


def read_decimal(word, length):
    """The number with at most so many digits that a word is in decimal without leading zeros, or None."""
    if len(word) > length or not word.isascii() or not word.isdigit():
        return None
    number = int(word)
    return number if str(number) == word else None


def read_signed(word, length):
    """The number that a word is, with a minus before it if it is below 0, or None."""
    if not word.startswith("-"):
        return read_decimal(word, length)
    number = read_decimal(word[1:], length)
    return None if number is None or number == 0 else -number


def read_values(text, length):
    """The tuple of the one or more numbers that are joined by commas in a text, or None."""
    numbers = [read_decimal(word, length) for word in text.split(",")]
    return None if None in numbers else tuple(numbers)


def text_of_values(values):
    """The text of a tuple of numbers, joined by commas."""
    return ",".join([str(value) for value in values])
