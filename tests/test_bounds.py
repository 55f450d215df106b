"""Points [13], [14], [18], [19] and [23]: levels, bounds, gaps and ways."""

import unittest
from itertools import product

from halftables.bounds import bounds, ends_of_gaps, levels, seen_places
from halftables.search import found_places, missed_keys
from reference import (
    BIG, all_tables, ends_outside, keys_of_all_kinds, keys_of_gaps, levels_of, places_in, shaped, sizes, small_tables,
    steps, turn, values_of,
)

TABLE = [[1, 5, 4], [2, 3, 9]]
NOT_IN_ORDER = [[8, 2, 9, 4], [1, 7, 3, 6], [5, 0, 4, 2]]


def tables():
    """The small tables and long ones."""
    yield from small_tables()
    yield from all_tables()


def ways(table, keys):
    """The path and the end of each of these keys."""
    return [(tuple(looked), last) for looked, last in (steps(table, key) for key in keys)]


def never_falls(table):
    return all(list(line) == sorted(line) for line in table + turn(table))


def values_at(table, places):
    return sorted(table[row][column] for row, column in places)


class LevelsTest(unittest.TestCase):
    """Point [18]."""

    def test_ordinary_tables(self):
        self.assertEqual(levels(TABLE), [[1, 4, 4], [2, 4, 9]])
        self.assertEqual(levels(NOT_IN_ORDER), [[2, 2, 4, 4], [2, 4, 4, 6], [4, 4, 4, 6]])
        self.assertEqual(levels([[5, 0], [7, -3]]), [[0, 0], [0, 0]])
        self.assertEqual(levels([[-7, -2], [-9, -4]]), [[-7, -2], [-7, -2]])

    def test_one_row_and_one_column(self):
        self.assertEqual(levels([[4, 9, 2, 7, 5]]), [[2, 2, 2, 5, 5]])
        self.assertEqual(levels([[4], [9], [2], [11]]), [[4], [9], [9], [11]])
        self.assertEqual(levels([[7]]), [[7]])

    def test_eight_rows_and_eight_columns(self):
        rising = shaped(list(range(64)), 8)
        self.assertEqual(levels(rising), rising)
        falling = shaped(list(range(64, 0, -1)), 8)
        self.assertEqual(levels(falling), [[57] * 8 for _ in range(8)])

    def test_equal_values(self):
        self.assertEqual(levels([[3, 3], [3, 3]]), [[3, 3], [3, 3]])
        self.assertEqual(levels([[7, 3, 7], [3, 7, 7], [7, 7, 3]]), [[3, 3, 7], [3, 7, 7], [7, 7, 7]])

    def test_twenty_digits(self):
        table = [[-BIG, BIG - 1], [BIG, -BIG]]
        self.assertEqual(levels(table), [[-BIG, BIG - 1], [BIG - 1, BIG - 1]])

    def test_words_of_the_document(self):
        for table in tables():
            self.assertEqual(levels(table), levels_of(table), table)

    def test_levels_never_fall(self):
        for table in tables():
            self.assertTrue(never_falls(levels(table)), table)

    def test_levels_are_their_own_levels(self):
        for table in tables():
            told = levels(table)
            self.assertEqual(levels(told), told, table)

    def test_all_keys_go_the_same_path_in_the_levels(self):
        for table in tables():
            keys = keys_of_all_kinds(table)
            self.assertEqual(ways(levels(table), keys), ways(table, keys), table)

    def test_no_other_table_that_never_falls_is_searched_like_this(self):
        for rows, columns in sizes(6):
            keys = keys_of_all_kinds([[0, 1, 2]])
            searched_so = {}
            for values in product(range(3), repeat=rows * columns):
                table = shaped(values, columns)
                if never_falls(table):
                    searched_so.setdefault(tuple(ways(table, keys)), []).append(table)
            for values in product(range(3), repeat=rows * columns):
                table = shaped(values, columns)
                self.assertEqual(searched_so[tuple(ways(table, keys))], [levels(table)], table)

    def test_levels_are_the_values_that_are_found(self):
        for table in tables():
            told = values_of(levels(table))
            self.assertEqual(told, values_at(table, found_places(table)), table)
            self.assertEqual([value for value in values_of(table) if value not in told], missed_keys(table), table)

    def test_found_where_the_level_is_the_value(self):
        for table in tables():
            if len(values_of(table)) == len(places_in(table)):
                told = levels(table)
                same = [(row, column) for row, column in places_in(table) if told[row][column] == table[row][column]]
                self.assertEqual(same, found_places(table), table)

    def test_found_places_further_down_and_right_are_greater(self):
        for table in tables():
            found = found_places(table)
            for row, column in found:
                for below, right in found:
                    if below >= row and right >= column and (below, right) != (row, column):
                        self.assertGreater(table[below][right], table[row][column], table)


class LookedAtTest(unittest.TestCase):
    """Point [13]."""

    def test_ordinary_places(self):
        told = [bounds(TABLE, place) for place in places_in(TABLE)]
        self.assertEqual(told, [(None, 4), (None, 4), (None, None), (1, 4), (4, 9), (4, None)])
        self.assertEqual(seen_places(TABLE), places_in(TABLE))

    def test_places_at_which_no_key_looks(self):
        table = [[5, 0, 6], [7, -3, 2], [9, 1, 8]]
        told = [bounds(table, place) for place in places_in(table)]
        self.assertEqual(told, [
            (None, 0), (None, 6), (None, None), None, (0, 6), (6, None), (0, 1), (0, 8), (6, None),
        ])
        self.assertIs(bounds([[5, 0], [7, -3]], (1, 0)), None)
        self.assertEqual(seen_places([[5, 0], [7, -3]]), [(0, 0), (0, 1), (1, 1)])
        self.assertEqual(seen_places([[3] * 8] * 8), [(0, column) for column in range(8)] + [
            (row, 7) for row in range(1, 8)
        ])

    def test_neighbouring_numbers_have_a_gap(self):
        self.assertEqual(bounds([[3, 4], [9, 2]], (1, 0)), (3, 4))
        self.assertEqual(seen_places([[3, 4], [9, 2]]), [(0, 0), (0, 1), (1, 0), (1, 1)])
        self.assertEqual(bounds([[BIG - 1, BIG], [0, 0]], (1, 0)), (BIG - 1, BIG))
        self.assertEqual(bounds([[-1, 0], [5, -3]], (1, 0)), (-1, 0))

    def test_one_row_one_column_one_place(self):
        row = [[4, 9, 2, 7, 5]]
        self.assertEqual([bounds(row, (0, column)) for column in range(5)], [
            (None, 2), (None, 2), (None, 5), (None, 5), (None, None),
        ])
        column = [[4], [9], [2], [11]]
        self.assertEqual([bounds(column, (row, 0)) for row in range(4)], [
            (None, None), (4, None), (9, None), (9, None),
        ])
        self.assertEqual((bounds([[7]], (0, 0)), seen_places([[7]])), ((None, None), [(0, 0)]))
        self.assertEqual((bounds([[0, 0], [0, 0]], (0, 0)), bounds([[0, 0], [0, 0]], (1, 1))), ((None, 0), (0, None)))

    def test_levels_above_and_to_the_right(self):
        for table in tables():
            told = levels_of(table)
            for row, column in places_in(table):
                low = told[row - 1][column] if row else None
                high = told[row][column + 1] if column + 1 < len(table[0]) else None
                unseen = row and column + 1 < len(table[0]) and low == high
                self.assertEqual(bounds(table, (row, column)), None if unseen else (low, high), table)

    def test_keys_that_look_at_a_place(self):
        for table in tables():
            values = values_of(table)
            missed = keys_of_gaps(table) + missed_keys(table)
            looked = {key: set(steps(table, key)[0]) for key in values + missed}
            for place in places_in(table):
                told = bounds(table, place)
                if told is None:
                    self.assertFalse(any(place in path for path in looked.values()), (table, place))
                    continue
                low, high = told
                self.assertTrue(any(place in looked[key] for key in missed), (table, place))
                self.assertTrue(all(bound is None or bound in values for bound in told), (table, place))
                for key in missed:
                    within = (low is None or key > low) and (high is None or key < high)
                    self.assertEqual(place in looked[key], within, (table, place, key))

    def test_seen_places(self):
        for table in tables():
            looked = {place for key in keys_of_all_kinds(table) for place in steps(table, key)[0]}
            self.assertEqual(seen_places(table), sorted(looked), table)

    def test_no_bounds_at_the_corner(self):
        for table in all_tables():
            for place in places_in(table):
                at_corner = place == (0, len(table[0]) - 1)
                self.assertEqual(bounds(table, place) == (None, None), at_corner, (table, place))


class GapsTest(unittest.TestCase):
    """Point [14]."""

    def test_ordinary_tables(self):
        self.assertEqual(ends_of_gaps(TABLE), [(0, -1), (1, -1), (2, 0), (2, 0), (2, 1), (2, 1), (2, 2)])
        self.assertEqual(ends_of_gaps([[5, 0], [7, -3]]), [(0, -1), (0, -1), (2, 1), (2, 1), (2, 1)])

    def test_one_row_one_column_one_place(self):
        self.assertEqual(ends_of_gaps([[4, 9, 2, 7, 5]]), [(0, -1), (1, 2), (1, 2), (1, 4), (1, 4), (1, 4)])
        self.assertEqual(ends_of_gaps([[4], [9], [2], [11]]), [(0, -1), (0, -1), (1, -1), (3, -1), (4, 0)])
        self.assertEqual(ends_of_gaps([[-7]]), [(0, -1), (1, 0)])

    def test_neighbouring_numbers_have_a_gap(self):
        self.assertEqual(ends_of_gaps([[1, 2, 3]]), [(0, -1), (1, 0), (1, 1), (1, 2)])
        self.assertEqual(ends_of_gaps([[-1], [0]]), [(0, -1), (1, -1), (2, 0)])
        self.assertEqual(ends_of_gaps([[-BIG, 1 - BIG]]), [(0, -1), (1, 0), (1, 1)])
        self.assertEqual(ends_of_gaps([[BIG - 1, BIG]]), [(0, -1), (1, 0), (1, 1)])

    def test_equal_values(self):
        self.assertEqual(ends_of_gaps([[5] * 8] * 8), [(0, -1), (8, 7)])
        self.assertEqual(ends_of_gaps([[0, 0, 1]]), [(0, -1), (1, 1), (1, 2)])

    def test_eight_rows_and_eight_columns(self):
        told = ends_of_gaps(shaped(list(range(64)), 8))
        self.assertEqual(len(told), 65)
        self.assertEqual((told[0], told[8], told[64]), ((0, -1), (1, -1), (8, 7)))

    def test_a_key_of_each_gap(self):
        for table in tables():
            self.assertEqual(ends_of_gaps(table), [steps(table, key)[1] for key in keys_of_gaps(table)], table)

    def test_ends_are_outside_and_in_their_order(self):
        for table in tables():
            order = ends_outside(len(table), len(table[0]))
            numbers = [order.index(last) for last in ends_of_gaps(table)]
            self.assertEqual(numbers, sorted(numbers), table)
            self.assertEqual((numbers[0], numbers[-1]), (0, len(order) - 1), table)
            self.assertEqual(len(numbers), len(values_of(table)) + 1, table)


class WaysTest(unittest.TestCase):
    """Point [19]."""

    def test_one_way_more_than_found_places(self):
        for table in tables():
            missed = keys_of_gaps(table) + missed_keys(table)
            self.assertEqual(len(set(ways(table, missed))), len(found_places(table)) + 1, table)
            self.assertEqual(len(set(ways(table, missed))), len(values_of(levels(table))) + 1, table)

    def test_ways_beside_a_key(self):
        for table in tables():
            gaps = keys_of_gaps(table)
            found = {table[row][column]: (row, column) for row, column in found_places(table)}
            for key, lesser, greater in zip(values_of(table), gaps, gaps[1:]):
                (looked, _), (before, _), (behind, _) = ways(table, [key, lesser, greater])
                if key not in found:
                    self.assertEqual(ways(table, [lesser, greater]), ways(table, [key, key]), (table, key))
                    continue
                row, column = found[key]
                self.assertEqual((before[:len(looked)], behind[:len(looked)]), (looked, looked), (table, key))
                self.assertEqual(before[len(looked):][:1], ((row, column - 1),) if column else (), (table, key))
                self.assertEqual(behind[len(looked):][:1], ((row + 1, column),) if row + 1 < len(table) else ())


class SameWaysTest(unittest.TestCase):
    """Point [23]."""

    def test_same_ways_exactly_with_the_same_levels(self):
        for rows, columns in sizes(4) + [(2, 3), (3, 2)]:
            numbers = range(3) if rows * columns > 4 else range(4)
            keys = keys_of_all_kinds([list(numbers)])
            levels_by_ways, ways_by_levels = {}, {}
            for values in product(numbers, repeat=rows * columns):
                table = shaped(values, columns)
                gone, told = str(ways(table, keys)), str(levels(table))
                self.assertEqual(levels_by_ways.setdefault(gone, told), told, table)
                self.assertEqual(ways_by_levels.setdefault(told, gone), gone, table)

    def test_one_changed_value(self):
        for table in [*small_tables()][::7] + [NOT_IN_ORDER, shaped([BIG, 3, -BIG, 3, 2, 5], 3)]:
            before = levels(table)
            values = values_of(table)
            news = sorted({near for value in values for near in (value - 1, value, value + 1)})
            for row, column in places_in(table):
                told = bounds(table, (row, column))
                for new in news:
                    other = [list(line) for line in table]
                    other[row][column] = new
                    same = self.is_without_effect(told, table[row][column], new)
                    self.assertEqual(levels(other) == before, same, (table, row, column, new))

    def is_without_effect(self, told, old, new):
        """Whether the levels stay when an old value becomes a new one, by the words of [23]."""
        if old == new or told is None:
            return True
        low, high = told
        at_most = low is not None and old <= low and new <= low
        at_least = high is not None and old >= high and new >= high
        return at_most or at_least
