"""The search from a corner of one table, and what it finds."""

from halftables.checks import check_key, check_place, check_table


def path(table, key):
    """Return the places at which the search for a key looks, in its order."""
    check_table(table)
    check_key(key)
    return walk(table, key)[0]


def end(table, key):
    """Return the place or the end outside at which the search for a key ends."""
    check_table(table)
    check_key(key)
    return walk(table, key)[1]


def path_from_below(table, key):
    """Return the places at which the search from below looks, in its order."""
    check_table(table)
    check_key(key)
    return [(row, column) for column, row in walk(turned(table), key)[0]]


def end_from_below(table, key):
    """Return the place or the end outside at which the search from below ends."""
    check_table(table)
    check_key(key)
    column, row = walk(turned(table), key)[1]
    return row, column


def is_found(table, place):
    """Tell whether the search for the value at a place ends at this place."""
    check_table(table)
    check_place(place, len(table), len(table[0]))
    row, column = place
    return walk(table, table[row][column])[1] == place


def found_places(table):
    """Return the places that the search finds, ascending."""
    check_table(table)
    return _places_found(table)


def found_from_below(table):
    """Return the places that the search from below finds, ascending."""
    check_table(table)
    return sorted([(row, column) for column, row in _places_found(turned(table))])


def missed_keys(table):
    """Return the values of the table that are found at no place, ascending."""
    check_table(table)
    found = [table[row][column] for row, column in _places_found(table)]
    return sorted({value for values in table for value in values if value not in found})


def all_found(table):
    """Tell whether every place of the table is found."""
    check_table(table)
    return len(_places_found(table)) == len(table) * len(table[0])


def walk(table, key):
    """Return the path and the end of the search for a key in a checked table."""
    looked = []
    row = 0
    column = len(table[0]) - 1
    while row < len(table) and column >= 0:
        looked.append((row, column))
        value = table[row][column]
        if value == key:
            break
        if value < key:
            row += 1
        else:
            column -= 1
    return looked, (row, column)


def turned(table):
    """Return the table whose rows are the columns of a checked table."""
    return [list(column) for column in zip(*table)]


def _places_found(table):
    """Return the places of a checked table that the search finds, ascending."""
    return [
        (row, column)
        for row, values in enumerate(table)
        for column, value in enumerate(values)
        if walk(table, value)[1] == (row, column)
    ]
