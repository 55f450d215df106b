"""Point [15]: tables alike and parting keys."""

import unittest
from itertools import product

from halftables.alike import are_alike, parting_key
from halftables.bounds import ends_of_gaps, levels
from halftables.search import path
from reference import BIG, all_tables, levels_of, shaped, shuffled, sizes, steps, turn, values_of

DISORDERED = [[50, 5, 10], [1, 20, 15], [30, 40, 3]]


def whole_keys_near(table, other):
    """The whole numbers near the values of two tables, ascending."""
    keys = set()
    for value in values_of(table) + values_of(other):
        keys.update(range(value - 3, value + 4))
    return sorted(keys)


def parted(table, other):
    """The least of the whole keys near the values with unlike ends, or None."""
    for key in whole_keys_near(table, other):
        if steps(table, key)[1] != steps(other, key)[1]:
            return key
    return None


class AlikeTest(unittest.TestCase):
    def assert_parted(self, table, other):
        told = parted(table, other)
        self.assertEqual(parting_key(table, other), told, (table, other))
        self.assertIs(are_alike(table, other), told is None, (table, other))

    def assert_told(self, table, other, told):
        for first, second in [(table, other), (other, table)]:
            self.assertEqual(parting_key(first, second), told)
            self.assertIs(are_alike(first, second), told is None)

    def test_alike_with_unlike_paths(self):
        other = [[50, 5, 10], [1, 2, 15], [30, 40, 3]]
        self.assert_told(DISORDERED, other, None)
        self.assertNotEqual(path(DISORDERED, 7), path(other, 7))
        self.assertNotEqual(levels(DISORDERED), levels(other))

    def test_found_in_only_one_of_them(self):
        self.assert_told([[5, 3]], [[4, 3]], None)
        self.assert_told([[6]], [[6], [6]], 7)
        self.assert_told([[3, 2]], [[3, 1]], 1)

    def test_the_same_tuple_inside_and_outside(self):
        self.assert_told([[5]], [[5], [6]], 7)
        self.assert_told([[5]], [[5, 6]], 6)
        self.assert_told([[5], [6]], [[5], [7]], 6)
        self.assert_told([[5], [6]], [[4], [6]], 4)

    def test_no_whole_key_between(self):
        table, other = [[4, 5], [5, 6]], [[4, 5], [4, 6]]
        self.assertNotEqual(steps(table, 4.5)[1], steps(other, 4.5)[1])
        self.assertNotEqual(ends_of_gaps(table), ends_of_gaps(other))
        self.assert_told(table, other, None)
        self.assert_told([[4, 6], [6, 8]], [[4, 6], [4, 8]], 5)

    def test_one_value_one_row_one_column(self):
        self.assert_told([[7]], [[7]], None)
        self.assert_told([[7]], [[8]], 7)
        self.assert_told([[-1]], [[1]], -1)
        self.assert_told([[4, 9, 2, 7, 5]], [[0, 9, 2, 7, 5]], 0)
        self.assert_told([[4, 9, 2, 7, 5]], [[3, 2, 2, 5, 5]], None)
        self.assert_told([[4], [9], [2]], [[4], [9], [8]], None)
        self.assert_told([[4], [9], [2]], [[4], [9], [10]], 10)

    def test_one_more_than_a_value(self):
        self.assert_told([[1], [3]], [[1], [3], [3]], 4)
        self.assert_told([[-5]], [[-5], [-9]], -4)
        self.assert_told([[BIG]], [[BIG], [BIG]], BIG + 1)

    def test_equal_values(self):
        self.assert_told([[3, 3], [3, 3]], [[3, 3], [3, 3]], None)
        self.assert_told([[3, 3], [3, 3]], [[9, 3], [3, 0]], None)
        self.assert_told([[3, 3], [3, 3]], [[2, 3], [3, 3]], 2)

    def test_twenty_digits(self):
        self.assert_told([[BIG - 1, BIG]], [[BIG - 2, BIG]], BIG - 2)
        self.assert_told([[-BIG, 1 - BIG]], [[-BIG, 1 - BIG]], None)
        self.assert_told([[BIG], [-BIG]], [[BIG], [BIG - 1]], None)

    def test_eight_rows_and_eight_columns(self):
        table = shaped(list(range(0, 128, 2)), 8)
        other = [list(row) for row in table]
        self.assert_told(table, other, None)
        other[7][0] = 113
        self.assert_told(table, other, 112)
        self.assert_told([[3] * 8] * 8, [[3] * 8] * 7, 4)
        self.assert_told([[3] * 8] * 8, [[3] * 7] * 8, 3)

    def test_tables_of_unlike_sizes(self):
        for (rows, columns), (others, more) in product(sizes(9) + [(8, 8)], repeat=2):
            table = [[2] * columns for _ in range(rows)]
            other = [[2] * more for _ in range(others)]
            self.assertIs(are_alike(table, other), (rows, columns) == (others, more))
            self.assert_parted(table, other)

    def test_small_tables(self):
        for numbers, rows, columns in [
            ((0, 1, 2, 4), 1, 2), ((0, 1, 2, 4), 2, 1), ((0, 1, 3), 2, 2), ((-1, 0, 2), 1, 3), ((-1, 0, 2), 3, 1),
        ]:
            for table, other in product(product(numbers, repeat=rows * columns), repeat=2):
                self.assert_parted(shaped(table, columns), shaped(other, columns))

    def test_one_changed_value(self):
        for table in all_tables()[::3]:
            for number, value in enumerate(values_of(table)[::7]):
                other = [list(row) for row in table]
                row = number % len(table)
                other[row][number % len(table[0])] = value + number % 3 - 1
                self.assert_parted(table, other)
                self.assert_parted(other, table)

    def test_disordered_tables_of_unlike_sizes(self):
        tables = [shaped(shuffled(list(range(8)), seed), columns) for seed in range(6) for columns in (1, 2, 4, 8)]
        for table, other in product(tables, repeat=2):
            self.assert_parted(table, other)

    def test_a_table_and_its_levels(self):
        for table in all_tables():
            self.assert_told(table, levels_of(table), None)

    def test_a_table_and_the_turned_one(self):
        for table in all_tables():
            self.assert_parted(table, turn(table))

    def test_parting_key_is_a_value_or_one_more(self):
        tables = all_tables()
        for table, other in zip(tables, tables[1:]):
            key = parting_key(table, other)
            if key is not None:
                values = values_of(table) + values_of(other)
                self.assertTrue(key in values or key - 1 in values, (table, other))
                self.assertNotEqual(steps(table, key)[1], steps(other, key)[1])
