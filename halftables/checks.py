"""Checks of arguments, the same for all files of the package."""

from halftables.errors import InvalidKey, InvalidNumber, InvalidTable, UnknownPlace

LONGEST = 8


def is_whole(thing):
    """Tell whether a thing is a whole number."""
    return isinstance(thing, int) and not isinstance(thing, bool)


def is_pair(thing):
    """Tell whether a thing is a tuple of two whole numbers."""
    return isinstance(thing, tuple) and len(thing) == 2 and is_whole(thing[0]) and is_whole(thing[1])


def check_table(table):
    """Raise InvalidTable if a thing is not a table."""
    if not _is_list_of_lists(table):
        raise InvalidTable(None)
    for number, row in enumerate(table):
        if len(row) != len(table[0]) or not _is_row(row):
            raise InvalidTable(number)


def check_key(key):
    """Raise InvalidKey if a thing is not a whole number."""
    if not is_whole(key):
        raise InvalidKey(key)


def check_place(place, rows, columns):
    """Raise UnknownPlace if a thing is not a place of a table of this size."""
    if not is_pair(place) or not _is_within(place, rows, columns):
        raise UnknownPlace(place)


def check_number(number, least, greatest):
    """Raise InvalidNumber if a thing is not a whole number within the limits."""
    if not is_whole(number) or not least <= number <= greatest:
        raise InvalidNumber(number)


def _is_list_of_lists(thing):
    """Tell whether a thing is a list of as many lists as a table may have rows."""
    if not isinstance(thing, list) or not 1 <= len(thing) <= LONGEST:
        return False
    return all([isinstance(row, list) for row in thing])


def _is_row(row):
    """Tell whether a list may be a row of a table."""
    return 1 <= len(row) <= LONGEST and all([is_whole(value) for value in row])


def _is_within(place, rows, columns):
    """Tell whether a pair of numbers is a place of a table of this size."""
    row, column = place
    return 0 <= row < rows and 0 <= column < columns
