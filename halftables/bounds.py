"""The levels of a table, and which keys look at its places."""

from halftables.checks import check_place, check_table
from halftables.search import walk


def levels(table):
    """Return the table of the levels."""
    check_table(table)
    return _levels_of(table)


def bounds(table, place):
    """Return the low and the high bound of a place, or None if no key looks at it."""
    check_table(table)
    check_place(place, len(table), len(table[0]))
    row, column = place
    return _bounds_at(_levels_of(table), row, column)


def seen_places(table):
    """Return the places at which some key looks, ascending."""
    check_table(table)
    heights = _levels_of(table)
    places = [(row, column) for row in range(len(table)) for column in range(len(table[0]))]
    return [(row, column) for row, column in places if _bounds_at(heights, row, column) is not None]


def ends_of_gaps(table):
    """Return the ends of the keys of each gap, from the least gap to the greatest."""
    check_table(table)
    # Between doubled values there is a whole key in each gap.
    doubled = [[2 * value for value in row] for row in table]
    values = sorted({value for row in doubled for value in row})
    keys = [values[0] - 1] + [value + 1 for value in values]
    return [walk(doubled, key)[1] for key in keys]


def _levels_of(table):
    """Return the table of the levels of a checked table."""
    heights = [list(row) for row in table]
    for row in range(len(table)):
        for column in reversed(range(len(table[0]))):
            low, high = _beside(heights, row, column)
            heights[row][column] = _level(table[row][column], low, high)
    return heights


def _level(value, low, high):
    """Return the level of a value from the levels above it and to its right, None where there is none."""
    # The level above is never greater than the one to the right, so the middle one of three lies between them.
    level = value
    if high is not None:
        level = min(level, high)
    if low is not None:
        level = max(level, low)
    return level


def _beside(heights, row, column):
    """Return the levels above a place and to its right, None where there is none."""
    low = heights[row - 1][column] if row > 0 else None
    high = heights[row][column + 1] if column + 1 < len(heights[row]) else None
    return low, high


def _bounds_at(heights, row, column):
    """Return the bounds of a place in a table with these levels, or None if no key looks at it."""
    low, high = _beside(heights, row, column)
    if low is not None and low == high:
        return None
    return low, high
