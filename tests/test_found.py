"""Points [8], [9], [10], [11] and [20]: the places that are found."""

import unittest
from itertools import permutations, product
from math import factorial

from halftables.search import all_found, end, end_from_below, found_from_below, found_places, is_found, missed_keys
from reference import (
    BIG, all_tables, different_tables, orders, places_in, rising_rows, shaped, shuffled, sizes, tables_in_order, turn,
    values_of,
)


def rises(values):
    return all(low < high for low, high in zip(values, values[1:]))


def is_in_order(table):
    return all(rises(row) for row in table) and all(rises(column) for column in turn(table))


class FoundTest(unittest.TestCase):
    """Point [8]."""

    def test_found_where_the_search_ends(self):
        for table in all_tables():
            found = [place for place in places_in(table) if end(table, table[place[0]][place[1]]) == place]
            self.assertEqual(found_places(table), found, table)
            for place in places_in(table):
                self.assertIs(is_found(table, place), place in found, (table, place))

    def test_found_from_below(self):
        for table in all_tables():
            found = [place for place in places_in(table) if end_from_below(table, table[place[0]][place[1]]) == place]
            self.assertEqual(found_from_below(table), found, table)
            turned = sorted((row, column) for column, row in found_places(turn(table)))
            self.assertEqual(found_from_below(table), turned, table)

    def test_each_search_finds_places_that_the_other_does_not(self):
        table = [[6, 9, 2], [7, 1, 8]]
        self.assertEqual(found_places(table), [(0, 2), (1, 2)])
        self.assertEqual(found_from_below(table), [(0, 0), (1, 0), (1, 2)])

    def test_corners_are_always_found(self):
        for table in all_tables():
            self.assertIs(is_found(table, (0, len(table[0]) - 1)), True)
            self.assertIn((len(table) - 1, 0), found_from_below(table))

    def test_one_place_for_each_value(self):
        for table in all_tables():
            for found in (found_places(table), found_from_below(table)):
                values = [table[row][column] for row, column in found]
                self.assertEqual(len(values), len(set(values)), table)

    def test_missed_keys(self):
        for table in all_tables():
            found = [table[row][column] for row, column in found_places(table)]
            missed = [value for value in values_of(table) if value not in found]
            self.assertEqual(missed_keys(table), missed, table)

    def test_equal_values(self):
        table = [[7, 3, 7], [3, 7, 7], [7, 7, 3]]
        self.assertEqual(found_places(table), [(0, 1), (0, 2)])
        self.assertEqual(missed_keys(table), [])
        self.assertIs(is_found(table, (1, 0)), False)
        self.assertIs(is_found(table, (0, 1)), True)

    def test_each_missed_key_once(self):
        table = [[9, 0, 5], [9, 0, 1], [0, 0, 9]]
        self.assertEqual(found_places(table), [(0, 1), (0, 2), (2, 2)])
        self.assertEqual(missed_keys(table), [1])
        self.assertEqual(missed_keys([[8, 8, 7, 5], [6, 8, 6, 0]]), [0, 6, 7, 8])
        self.assertEqual(missed_keys([[BIG, -BIG, BIG - 1], [0, 0, 0]]), [BIG])

    def test_one_row_and_one_column(self):
        self.assertEqual(found_places([[4, 9, 2, 7, 5]]), [(0, 2), (0, 4)])
        self.assertEqual(missed_keys([[4, 9, 2, 7, 5]]), [4, 7, 9])
        self.assertEqual(found_places([[4], [9], [2], [9]]), [(0, 0), (1, 0)])
        self.assertEqual(missed_keys([[4], [9], [2], [9]]), [2])
        self.assertEqual((found_places([[0]]), missed_keys([[0]]), all_found([[0]])), ([(0, 0)], [], True))


class DistanceTest(unittest.TestCase):
    """Point [9]."""

    def test_found_places_further_down_are_greater(self):
        for table in all_tables():
            greatest = {}
            for row, column in found_places(table):
                distance = row + len(table[0]) - 1 - column
                if distance in greatest:
                    self.assertGreater(table[row][column], greatest[distance], table)
                greatest[distance] = table[row][column]


class AllFoundTest(unittest.TestCase):
    """Point [10]."""

    def assert_told(self, table):
        different = len(values_of(table)) == len(places_in(table))
        self.assertIs(all_found(table), different and is_in_order(table), table)
        self.assertIs(all_found(table), found_places(table) == places_in(table), table)

    def test_tables_in_order(self):
        for table in tables_in_order():
            self.assert_told(table)
        self.assertIs(all_found(shaped(list(range(64)), 8)), True)

    def test_tables_not_in_order(self):
        for table in all_tables():
            self.assert_told(table)

    def test_one_exchange_spoils_it(self):
        table = shaped(list(range(64)), 8)
        table[7][6], table[7][7] = table[7][7], table[7][6]
        self.assertIs(all_found(table), False)

    def test_all_tables_of_few_numbers(self):
        for rows, columns in sizes(6):
            for values in product(range(3), repeat=rows * columns):
                self.assert_told(shaped(values, columns))

    def test_all_orders(self):
        for rows, columns in sizes(6):
            for table in orders(rows, columns):
                self.assert_told(table)


class RisingTest(unittest.TestCase):
    """Point [11]."""

    def test_rows_that_rise(self):
        for rows, columns in [(1, 5), (5, 1), (2, 2), (3, 4), (6, 3), (8, 8)]:
            for seed in range(8):
                table = rising_rows(rows, columns, seed)
                for row, column in places_in(table):
                    least = all(table[above][column] < table[row][column] for above in range(row))
                    self.assertIs(is_found(table, (row, column)), least, (table, row, column))

    def test_columns_that_rise(self):
        for rows, columns in [(1, 5), (5, 1), (2, 2), (3, 4), (6, 3), (8, 8)]:
            for seed in range(8):
                table = turn(rising_rows(columns, rows, seed))
                for row, column in places_in(table):
                    greater = all(value > table[row][column] for value in table[row][column + 1:])
                    self.assertIs(is_found(table, (row, column)), greater, (table, row, column))


class OtherOrdersTest(unittest.TestCase):
    """Point [20]."""

    def count_in_rectangle(self, table, place):
        """The number of orders of the rectangle, and of those that find the place."""
        row, column = place
        inside = [(at, beside) for at, beside in places_in(table) if at <= row and beside >= column]
        values = [table[at][beside] for at, beside in inside]
        found = 0
        for order in permutations(values):
            other = [list(line) for line in table]
            for (at, beside), value in zip(inside, order):
                other[at][beside] = value
            found += is_found(other, place)
        return factorial(len(inside)), found

    def test_orders_of_the_rectangle(self):
        for seed in range(3):
            table = shaped(shuffled(list(range(12)), seed), 4)
            for row, column in places_in(table):
                if (row + 1) * (4 - column) <= 6:
                    tables, found = self.count_in_rectangle(table, (row, column))
                    self.assertEqual(found * (row + 3 - column + 1), tables, (table, row, column))

    def test_orders_of_rows_that_rise(self):
        for rows, columns in [(1, 3), (3, 1), (4, 3), (5, 5)]:
            table = rising_rows(rows, columns, 4)
            tables = [[list(row) for row in order] for order in permutations(table)]
            for row, column in places_in(table):
                found = sum(is_found(other, (row, column)) for other in tables)
                self.assertEqual(found * (row + 1), factorial(rows))

    def test_first_row_and_last_column(self):
        for table in different_tables():
            last = len(table[0]) - 1
            for column, value in enumerate(table[0]):
                told = all(right > value for right in table[0][column + 1:])
                self.assertIs(is_found(table, (0, column)), told, table)
            for row in range(len(table)):
                told = all(table[above][last] < table[row][last] for above in range(row))
                self.assertIs(is_found(table, (row, last)), told, table)
