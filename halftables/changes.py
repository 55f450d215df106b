"""How few values have to be changed so that a place is found."""

from halftables.checks import check_place, check_table


def fewest_changes(table, place):
    """Return the least number of other values that have to be changed so that a place is found."""
    check_table(table)
    check_place(place, len(table), len(table[0]))
    return len(_fewest(table, place))


def changed(table, place):
    """Return a table with the fewest other values changed so that a place is found."""
    check_table(table)
    check_place(place, len(table), len(table[0]))
    other = [list(row) for row in table]
    for row, column, value in _fewest(table, place):
        other[row][column] = value
    return other


def _fewest(table, place):
    """Return the fewest changes, tuples of row, column and new value, so that a place is found."""
    last_row, last_column = place
    key = table[last_row][last_column]
    corner = (0, len(table[0]) - 1)
    fewest = {corner: []}
    for row in range(last_row + 1):
        for column in reversed(range(last_column, len(table[0]))):
            if (row, column) != corner:
                fewest[(row, column)] = min(_ways_to(table, key, fewest, row, column), key=len)
    return fewest[(last_row, last_column)]


def _ways_to(table, key, fewest, row, column):
    """Return the changes of the best routes to a place, one with a last step down, one with one to the left."""
    ways = []
    if row > 0:
        needed = [(row - 1, column, key - 1)] if table[row - 1][column] >= key else []
        ways.append(fewest[(row - 1, column)] + needed)
    if column + 1 < len(table[0]):
        needed = [(row, column + 1, key + 1)] if table[row][column + 1] <= key else []
        ways.append(fewest[(row, column + 1)] + needed)
    return ways
