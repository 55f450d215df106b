"""Points [5], [6], [7] and [14]: paths and ends from both corners."""

import unittest

from halftables.search import end, end_from_below, path, path_from_below
from reference import BIG, all_tables, ends_outside, keys_around, steps, steps_from_below, turn, values_of

TABLE = [[1, 5, 4], [2, 3, 9]]


class SearchTest(unittest.TestCase):
    def test_ordinary_keys(self):
        self.assertEqual(path(TABLE, 4), [(0, 2)])
        self.assertEqual(end(TABLE, 4), (0, 2))
        self.assertEqual(path(TABLE, 2), [(0, 2), (0, 1), (0, 0), (1, 0)])
        self.assertEqual(end(TABLE, 2), (1, 0))
        self.assertEqual(path(TABLE, 5), [(0, 2), (1, 2), (1, 1)])
        self.assertEqual(end(TABLE, 5), (2, 1))
        self.assertEqual(path(TABLE, -8), [(0, 2), (0, 1), (0, 0)])
        self.assertEqual(end(TABLE, -8), (0, -1))
        self.assertEqual(path(TABLE, 10), [(0, 2), (1, 2)])
        self.assertEqual(end(TABLE, 10), (2, 2))

    def test_one_place(self):
        for key, told in [(6, (0, -1)), (7, (0, 0)), (8, (1, 0))]:
            self.assertEqual((path([[7]], key), end([[7]], key)), ([(0, 0)], told))

    def test_one_row(self):
        row = [[6, 2, 8]]
        self.assertEqual((path(row, 7), end(row, 7)), ([(0, 2), (0, 1)], (1, 1)))
        self.assertEqual((path(row, 2), end(row, 2)), ([(0, 2), (0, 1)], (0, 1)))
        self.assertEqual((path(row, 1), end(row, 1)), ([(0, 2), (0, 1), (0, 0)], (0, -1)))
        self.assertEqual((path(row, 6), end(row, 6)), ([(0, 2), (0, 1)], (1, 1)))
        self.assertEqual((path(row, 9), end(row, 9)), ([(0, 2)], (1, 2)))

    def test_one_column(self):
        column = [[6], [2], [8]]
        self.assertEqual((path(column, 7), end(column, 7)), ([(0, 0), (1, 0), (2, 0)], (2, -1)))
        self.assertEqual((path(column, 2), end(column, 2)), ([(0, 0)], (0, -1)))
        self.assertEqual((path(column, 9), end(column, 9)), ([(0, 0), (1, 0), (2, 0)], (3, 0)))
        self.assertEqual((path(column, 8), end(column, 8)), ([(0, 0), (1, 0), (2, 0)], (2, 0)))

    def test_equal_values(self):
        table = [[5, 5], [5, 5]]
        self.assertEqual((path(table, 5), end(table, 5)), ([(0, 1)], (0, 1)))
        self.assertEqual((path(table, 4), end(table, 4)), ([(0, 1), (0, 0)], (0, -1)))
        self.assertEqual((path(table, 6), end(table, 6)), ([(0, 1), (1, 1)], (2, 1)))

    def test_twenty_digits(self):
        table = [[-BIG, BIG - 1], [1 - BIG, BIG]]
        self.assertEqual((path(table, BIG), end(table, BIG)), ([(0, 1), (1, 1)], (1, 1)))
        self.assertEqual((path(table, 1 - BIG), end(table, 1 - BIG)), ([(0, 1), (0, 0), (1, 0)], (1, 0)))
        self.assertEqual(end(table, BIG - 2), (2, 0))
        self.assertEqual(end(table, -BIG - 1), (0, -1))

    def test_steps_of_the_document(self):
        for table in all_tables():
            for key in keys_around(table):
                looked, last = steps(table, key)
                self.assertEqual(path(table, key), looked, (table, key))
                self.assertEqual(end(table, key), last, (table, key))


class FromBelowTest(unittest.TestCase):
    def test_ordinary_keys(self):
        self.assertEqual(path_from_below(TABLE, 2), [(1, 0)])
        self.assertEqual(end_from_below(TABLE, 2), (1, 0))
        self.assertEqual(path_from_below(TABLE, 4), [(1, 0), (1, 1), (1, 2), (0, 2)])
        self.assertEqual(end_from_below(TABLE, 4), (0, 2))
        self.assertEqual(path_from_below(TABLE, 0), [(1, 0), (0, 0)])
        self.assertEqual(end_from_below(TABLE, 0), (-1, 0))
        self.assertEqual(path_from_below(TABLE, 10), [(1, 0), (1, 1), (1, 2)])
        self.assertEqual(end_from_below(TABLE, 10), (1, 3))

    def test_one_row_and_one_column(self):
        self.assertEqual(path_from_below([[6, 2, 8]], 7), [(0, 0), (0, 1), (0, 2)])
        self.assertEqual(end_from_below([[6, 2, 8]], 7), (-1, 2))
        self.assertEqual(end_from_below([[6, 2, 8]], 9), (0, 3))
        self.assertEqual(path_from_below([[6], [2], [8]], 7), [(2, 0), (1, 0)])
        self.assertEqual(end_from_below([[6], [2], [8]], 7), (1, 1))
        self.assertEqual(end_from_below([[6], [2], [8]], 1), (-1, 0))

    def test_steps_of_the_document(self):
        for table in all_tables():
            for key in keys_around(table):
                looked, last = steps_from_below(table, key)
                self.assertEqual(path_from_below(table, key), looked, (table, key))
                self.assertEqual(end_from_below(table, key), last, (table, key))

    def test_same_as_in_the_turned_table(self):
        for table in all_tables():
            other = turn(table)
            for key in keys_around(table):
                looked = [(row, column) for column, row in path(other, key)]
                self.assertEqual(path_from_below(table, key), looked, (table, key))
                self.assertEqual(end_from_below(table, key), end(other, key)[::-1], (table, key))


class CrossingTest(unittest.TestCase):
    """Point [7]."""

    def test_greater_keys_stay_below(self):
        for table in all_tables():
            paths = [path(table, key) for key in keys_around(table)]
            for lesser, greater in zip(paths, paths[1:]):
                for place, other in zip(lesser, greater):
                    self.assertLessEqual(place[0], other[0], table)
                    self.assertLessEqual(place[1], other[1], table)

    def test_all_pairs_of_keys(self):
        table = [[8, 2, 9, 4], [1, 7, 3, 6], [5, 0, 4, 2]]
        paths = [path(table, key) for key in range(-1, 11)]
        for lesser in range(len(paths)):
            for greater in range(lesser + 1, len(paths)):
                for place, other in zip(paths[lesser], paths[greater]):
                    self.assertTrue(place[0] <= other[0] and place[1] <= other[1])

    def test_ends_of_greater_keys_are_later(self):
        for table in all_tables():
            order = ends_outside(len(table), len(table[0]))
            ends = [end(table, key) for key in keys_around(table)]
            numbers = [order.index(last) for last in ends if last in order]
            self.assertEqual(numbers, sorted(numbers), table)
            self.assertEqual((ends[0], ends[-1]), (order[0], order[-1]), table)

    def test_ends_beside_a_found_key(self):
        for table in all_tables():
            keys = keys_around(table)
            rows, columns = len(table), len(table[0])
            ends = {key: end(table, key) for key in keys}
            for key, (row, column) in ends.items():
                if row == rows or column == -1:
                    continue
                for other, (last_row, last_column) in ends.items():
                    if other > key and last_column == -1:
                        self.assertGreaterEqual(last_row, row, (table, key, other))
                    if other < key and last_row == rows:
                        self.assertLessEqual(last_column, column, (table, key, other))


class GapTest(unittest.TestCase):
    """Point [14]."""

    def test_keys_of_one_gap_go_the_same_path(self):
        for table in all_tables():
            spread = [[10 * value for value in row] for row in table]
            values = values_of(spread)
            gaps = [[values[0] - 1, values[0] - 70, values[0] - BIG], [values[-1] + 1, values[-1] + BIG]]
            gaps += [[low + 1, (low + high) // 2, high - 1] for low, high in zip(values, values[1:])]
            self.assertEqual(len(gaps), len(values) + 1)
            for gap in gaps:
                self.assertEqual({tuple(path(spread, key)) for key in gap}, {tuple(path(spread, gap[0]))})
                self.assertEqual({end(spread, key) for key in gap}, {end(spread, gap[0])})

    def test_keys_of_two_gaps_may_part(self):
        self.assertNotEqual(path([[1, 5, 4], [2, 3, 9]], 0), path([[1, 5, 4], [2, 3, 9]], 3))
