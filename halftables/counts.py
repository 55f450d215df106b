"""Numbers of tables, told by closed formulas instead of going through the tables."""

from math import comb, factorial

from halftables.checks import LONGEST, check_number, check_place, is_pair
from halftables.errors import UnknownPlace


def count_found(rows, columns, place):
    """Return the number of tables in which a place is found."""
    _check_size(rows, columns)
    check_place(place, rows, columns)
    return _tables_that_find(rows, columns, place)


def count_found_twice(rows, columns, place):
    """Return the number of tables in which both searches find a place."""
    _check_size(rows, columns)
    check_place(place, rows, columns)
    row, column = place
    left = columns - 1 - column
    up = rows - 1 - row
    found = factorial(rows * columns) * comb(row + left, row) * comb(column + up, column)
    found *= factorial(row + column) * factorial(left + up)
    return found // factorial(rows + columns - 1)


def count_found_rising(rows, columns, place):
    """Return the number of tables with rows that rise in which a place is found."""
    _check_size(rows, columns)
    check_place(place, rows, columns)
    tables = factorial(rows * columns)
    for _ in range(rows):
        tables //= factorial(columns)
    return tables // (place[0] + 1)


def count_rising(rows, columns):
    """Return the number of tables in which all places are found."""
    _check_size(rows, columns)
    ways = 1
    for row, column in _places(rows, columns):
        ways *= rows - row + columns - column - 1
    return factorial(rows * columns) // ways


def found_in_all(rows, columns):
    """Return the numbers of found places of all tables, added up."""
    _check_size(rows, columns)
    return sum([_tables_that_find(rows, columns, place) for place in _places(rows, columns)])


def count_ends(rows, columns, end):
    """Return the number of pairs of a table and a gap of it that end at an end outside."""
    _check_size(rows, columns)
    if not is_pair(end):
        raise UnknownPlace(end)
    row, column = end
    pairs = factorial(rows * columns + 1)
    if column == -1 and 0 <= row < rows:
        return pairs * columns // ((columns + row) * (columns + row + 1))
    if row == rows and 0 <= column < columns:
        left = columns - 1 - column
        return pairs * rows // ((rows + left) * (rows + left + 1))
    raise UnknownPlace(end)


def count_behaviours(rows, columns, found):
    """Return the number of behaviours of tables with so many found places."""
    _check_size(rows, columns)
    check_number(found, 0, LONGEST * LONGEST)
    behaviours = 0
    for numbers in range(found + 1):
        tables = comb(found, numbers) * _tables_that_never_fall(rows, columns, numbers)
        if (found - numbers) % 2 == 1:
            behaviours -= tables
        else:
            behaviours += tables
    return behaviours


def _check_size(rows, columns):
    """Raise InvalidNumber if there is no table with so many rows and columns."""
    check_number(rows, 1, LONGEST)
    check_number(columns, 1, LONGEST)


def _places(rows, columns):
    """Return the places of a table, ascending."""
    return [(row, column) for row in range(rows) for column in range(columns)]


def _tables_that_find(rows, columns, place):
    """Return the number of tables in which a place is found."""
    row, column = place
    distance = row + columns - 1 - column
    return factorial(rows * columns) // (distance + 1)


def _tables_that_never_fall(rows, columns, numbers):
    """Return the number of tables of the numbers from 1 on whose rows and columns never fall."""
    above = 1
    below = 1
    for row, column in _places(rows, columns):
        above *= row + column + numbers
        below *= row + column + 1
    return above // below
