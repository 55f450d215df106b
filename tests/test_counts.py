"""Points [10], [12], [20], [21] and [24]: numbers of tables."""

import unittest
from fractions import Fraction
from functools import lru_cache
from itertools import product
from math import comb, factorial

from halftables.counts import (
    count_behaviours, count_ends, count_found, count_found_rising, count_found_twice, count_rising, found_in_all,
)
from halftables.search import found_from_below, found_places
from reference import all_sizes, ends_outside, levels_of, orders, places_of, shaped, sizes, steps, turn


def rises(values):
    return all(low < high for low, high in zip(values, values[1:]))


@lru_cache(maxsize=None)
def gone_through(rows, columns):
    """What is counted by going through all tables of one size."""
    places = places_of(rows, columns)
    told = {name: dict.fromkeys(places, 0) for name in ("found", "twice", "rows rise", "columns rise", "looked")}
    told["ends"] = dict.fromkeys(ends_outside(rows, columns), 0)
    told["all found"] = told["added up"] = 0
    for table in orders(rows, columns):
        found = found_places(table)
        below = found_from_below(table)
        told["added up"] += len(found)
        told["all found"] += len(found) == len(places)
        for place in found:
            told["found"][place] += 1
            told["twice"][place] += place in below
            told["rows rise"][place] += all(rises(row) for row in table)
            told["columns rise"][place] += all(rises(column) for column in turn(table))
        for key in range(-1, 2 * rows * columns, 2):
            looked, last = steps(table, key)
            told["ends"][last] += 1
            for place in looked:
                told["looked"][place] += 1
    return told


class GoneThroughTest(unittest.TestCase):
    """All counts against tables gone through one by one."""

    def assert_counts(self, name, count):
        for rows, columns in sizes(6) + [(1, 7), (7, 1)]:
            told = gone_through(rows, columns)[name]
            for place in places_of(rows, columns):
                self.assertEqual(count(rows, columns, place), told[place], (rows, columns, place))

    def test_count_found(self):
        self.assert_counts("found", count_found)

    def test_count_found_twice(self):
        self.assert_counts("twice", count_found_twice)

    def test_count_found_rising(self):
        self.assert_counts("rows rise", count_found_rising)

    def test_columns_that_rise(self):
        def by_formula(rows, columns, place):
            return factorial(rows * columns) // factorial(rows) ** columns // (columns - place[1])
        self.assert_counts("columns rise", by_formula)

    def test_places_looked_at(self):
        def by_formula(rows, columns, place):
            return (rows * columns + 1) * count_found(rows, columns, place)
        self.assert_counts("looked", by_formula)

    def test_count_rising_and_found_in_all(self):
        for rows, columns in sizes(6) + [(1, 7), (7, 1)]:
            told = gone_through(rows, columns)
            self.assertEqual(count_rising(rows, columns), told["all found"], (rows, columns))
            self.assertEqual(found_in_all(rows, columns), told["added up"], (rows, columns))

    def test_count_ends(self):
        for rows, columns in sizes(6) + [(1, 7), (7, 1)]:
            told = gone_through(rows, columns)["ends"]
            for last in ends_outside(rows, columns):
                self.assertEqual(count_ends(rows, columns, last), told[last], (rows, columns, last))


class FormulaTest(unittest.TestCase):
    """All counts against the formulas of the document, in exact fractions, up to 8 rows and 8 columns."""

    def test_count_found(self):
        for rows, columns in all_sizes():
            for row, column in places_of(rows, columns):
                told = Fraction(factorial(rows * columns), row + columns - 1 - column + 1)
                self.assertEqual(count_found(rows, columns, (row, column)), told)

    def test_count_found_twice(self):
        for rows, columns in all_sizes():
            for row, column in places_of(rows, columns):
                left, up = columns - 1 - column, rows - 1 - row
                told = Fraction(factorial(rows * columns), factorial(rows + columns - 1))
                told *= comb(row + left, row) * comb(column + up, column)
                told *= factorial(row + column) * factorial(left + up)
                self.assertEqual(count_found_twice(rows, columns, (row, column)), told)

    def test_count_found_rising(self):
        for rows, columns in all_sizes():
            for row, column in places_of(rows, columns):
                told = Fraction(factorial(rows * columns), factorial(columns) ** rows * (row + 1))
                self.assertEqual(count_found_rising(rows, columns, (row, column)), told)

    def test_count_rising(self):
        for rows, columns in all_sizes():
            told = Fraction(factorial(rows * columns))
            for row, column in places_of(rows, columns):
                told /= rows - row + columns - column - 1
            self.assertEqual(count_rising(rows, columns), told)

    def test_found_in_all(self):
        for rows, columns in all_sizes():
            told = sum(Fraction(1, row + columns - column) for row, column in places_of(rows, columns))
            self.assertEqual(found_in_all(rows, columns), told * factorial(rows * columns))

    def test_count_ends(self):
        for rows, columns in all_sizes():
            pairs = factorial(rows * columns + 1)
            for row in range(rows):
                told = Fraction(pairs * columns, (columns + row) * (columns + row + 1))
                self.assertEqual(count_ends(rows, columns, (row, -1)), told)
            for column in range(columns):
                left = columns - 1 - column
                told = Fraction(pairs * rows, (rows + left) * (rows + left + 1))
                self.assertEqual(count_ends(rows, columns, (rows, column)), told)

    def test_ends_on_the_left_and_below(self):
        for rows, columns in all_sizes():
            pairs = factorial(rows * columns + 1)
            left = sum(count_ends(rows, columns, (row, -1)) for row in range(rows))
            below = sum(count_ends(rows, columns, (rows, column)) for column in range(columns))
            self.assertEqual(left, Fraction(pairs * rows, rows + columns))
            self.assertEqual(below, Fraction(pairs * columns, rows + columns))

    def test_both_searches_are_mirrored(self):
        for rows, columns in all_sizes():
            for row, column in places_of(rows, columns):
                twice = count_found_twice(rows, columns, (row, column))
                self.assertEqual(twice, count_found_twice(columns, rows, (column, row)))
                self.assertLessEqual(twice, count_found(rows, columns, (row, column)))


def behaviours_gone_through(rows, columns):
    """The behaviours of all tables of one size, for each number of found places."""
    told = {}
    for values in product(range(rows * columns), repeat=rows * columns):
        table = shaped(values, columns)
        levels = levels_of(table)
        different = sorted({level for row in levels for level in row})
        names = tuple(different.index(level) for row in levels for level in row)
        told.setdefault(len(found_places(table)), set()).add(names)
    return {found: len(behaviours) for found, behaviours in told.items()}


def onto_tables(rows, columns, found):
    """The number of tables of the numbers from 1 to found, each at least once, that never fall."""
    told = 0
    for values in product(range(found), repeat=rows * columns):
        table = shaped(values, columns)
        never_falls = all(list(line) == sorted(line) for line in table + turn(table))
        told += never_falls and len(set(values)) == found
    return told


class BehaviourTest(unittest.TestCase):
    """Point [24]."""

    def test_against_all_tables(self):
        for rows, columns in sizes(4) + [(1, 5), (5, 1), (2, 3), (3, 2)]:
            told = behaviours_gone_through(rows, columns)
            for found in range(65):
                self.assertEqual(count_behaviours(rows, columns, found), told.get(found, 0), (rows, columns, found))

    def test_against_tables_that_never_fall(self):
        for rows, columns in sizes(6):
            for found in range(6):
                told = onto_tables(rows, columns, found)
                self.assertEqual(count_behaviours(rows, columns, found), told, (rows, columns, found))

    def test_formula(self):
        for rows, columns in all_sizes():
            ways = []
            for numbers in range(65):
                told = Fraction(1)
                for row, column in places_of(rows, columns):
                    told *= Fraction(row + column + numbers, row + column + 1)
                ways.append(told)
            for found in {0, 1, 2, 3, 7, rows * columns - 1, rows * columns, 63, 64}:
                told = sum(
                    (-1) ** (found - numbers) * comb(found, numbers) * ways[numbers] for numbers in range(found + 1)
                )
                self.assertEqual(count_behaviours(rows, columns, found), told, (rows, columns, found))

    def test_edges(self):
        for rows, columns in all_sizes():
            places = rows * columns
            self.assertEqual(count_behaviours(rows, columns, 0), 0)
            self.assertEqual(count_behaviours(rows, columns, 1), 1)
            self.assertEqual(count_behaviours(rows, columns, places), count_rising(rows, columns))
            if places < 64:
                self.assertEqual(count_behaviours(rows, columns, places + 1), 0)
                self.assertEqual(count_behaviours(rows, columns, 64), 0)


class KnownNumbersTest(unittest.TestCase):
    """Numbers that are easily worked out by hand."""

    def test_one_place(self):
        self.assertEqual(count_found(1, 1, (0, 0)), 1)
        self.assertEqual(count_found_twice(1, 1, (0, 0)), 1)
        self.assertEqual(count_found_rising(1, 1, (0, 0)), 1)
        self.assertEqual((count_rising(1, 1), found_in_all(1, 1)), (1, 1))
        self.assertEqual((count_ends(1, 1, (0, -1)), count_ends(1, 1, (1, 0))), (1, 1))
        self.assertEqual([count_behaviours(1, 1, found) for found in range(4)], [0, 1, 0, 0])

    def test_eight_rows_and_eight_columns(self):
        tables = factorial(64)
        self.assertEqual(count_found(8, 8, (0, 7)), tables)
        self.assertEqual(count_found(8, 8, (7, 0)) * 15, tables)
        self.assertEqual(count_found_twice(8, 8, (0, 7)) * 15, tables)
        self.assertEqual(count_found_rising(8, 8, (7, 3)) * 8 * factorial(8) ** 8, tables)
        self.assertEqual(count_rising(3, 3), 42)
        self.assertEqual(count_rising(4, 4), 24024)
        self.assertEqual(count_rising(8, 2), 1430)
        self.assertEqual(count_ends(8, 8, (0, -1)) * 9, factorial(65))
        self.assertEqual(count_ends(8, 8, (8, 7)) * 9, factorial(65))
