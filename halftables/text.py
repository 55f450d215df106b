"""Tables as texts, with one line for each row."""

from halftables.checks import LONGEST, check_table
from halftables.errors import InvalidText

DIGITS = "0123456789"


def format_table(table):
    """Return the text of a table."""
    check_table(table)
    return "\n".join([" ".join([str(value) for value in row]) for row in table])


def parse_table(text):
    """Return the table that a text writes."""
    if not isinstance(text, str):
        raise InvalidText(None)
    lines = [line.split(" ") for line in text.split("\n")]
    if len(lines) > LONGEST:
        raise InvalidText(None)
    table = []
    for number, words in enumerate(lines):
        if len(words) != len(lines[0]) or not _is_line(words):
            raise InvalidText(number)
        table.append([int(word) for word in words])
    return table


def _is_line(words):
    """Tell whether the words of a line write a row of a table."""
    return len(words) <= LONGEST and all([_is_number(word) for word in words])


def _is_number(word):
    """Tell whether a word writes a whole number in the only way in which it is written."""
    digits = word[1:] if word.startswith("-") else word
    # An empty word has no digits: it stands between two blanks, or at an end of its line.
    if digits == "" or not all([sign in DIGITS for sign in digits]):
        return False
    return word == "0" or not digits.startswith("0")
