"""The errors that the package raises.

Their messages do not show what was passed: not everything that can be passed
has a text, and the fields hold the thing itself.
"""


class InvalidTable(ValueError):
    """A thing is not a table; row is the number of the wrong row, or None."""

    def __init__(self, row):
        super().__init__("not a table of 1 to 8 equally long rows of 1 to 8 whole numbers")
        self.row = row


class InvalidKey(ValueError):
    """A key, or a total, is not a whole number."""

    def __init__(self, key):
        super().__init__("the key is not a whole number")
        self.key = key


class UnknownPlace(LookupError):
    """A thing is not a place of the table, or not one of its ends."""

    def __init__(self, place):
        super().__init__("there is no such place")
        self.place = place


class InvalidNumber(ValueError):
    """A thing is not a whole number, or not one within its limits."""

    def __init__(self, number):
        super().__init__("not a whole number within the limits")
        self.number = number


class InvalidValues(ValueError):
    """A thing is not a list of values; index is the number of the wrong one, or None."""

    def __init__(self, index):
        super().__init__("not a list of 2 to 30 whole numbers")
        self.index = index


class InvalidText(ValueError):
    """A thing is not the text of a table; line is the number of the wrong line, or None."""

    def __init__(self, line):
        super().__init__("not the text of a table")
        self.line = line


class Ended(LookupError):
    """A seeker that has ended was asked for a step."""


class NothingToUndo(LookupError):
    """A seeker has no step and no change left to take back."""
