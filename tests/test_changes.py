"""Point [16]: fewest changes so that a place is found."""

import unittest
from itertools import combinations, product

from halftables.changes import changed, fewest_changes
from halftables.search import found_places, is_found
from reference import BIG, all_tables, places_in, places_of, shaped, sizes, small_tables, steps

BELOW = -1
LEFT = 1


def routes(down, left):
    """All ways to go down and left, as lists of steps."""
    for places in combinations(range(down + left), down):
        yield [BELOW if number in places else LEFT for number in range(down + left)]


def changes_along(table, place, route):
    """How many values have to be changed along a route, by the words of [16]."""
    value = table[place[0]][place[1]]
    row, column = 0, len(table[0]) - 1
    changes = 0
    for step in route:
        if step == BELOW:
            changes += not table[row][column] < value
            row += 1
        else:
            changes += not table[row][column] > value
            column -= 1
    return changes


def fewest_along_routes(table, place):
    down, left = place[0], len(table[0]) - 1 - place[1]
    return min(changes_along(table, place, route) for route in routes(down, left))


class FewestTest(unittest.TestCase):
    def test_ordinary_tables(self):
        table = [[6, 9], [7, 1], [5, 8]]
        self.assertEqual([fewest_changes(table, place) for place in places_in(table)], [0, 0, 0, 1, 1, 1])
        table = [[8, 2, 9, 4], [1, 7, 3, 6], [5, 0, 4, 2]]
        self.assertEqual([fewest_changes(table, place) for place in places_in(table)], [
            2, 0, 1, 0, 1, 1, 1, 0, 1, 2, 1, 2,
        ])

    def test_one_row_one_column_one_place(self):
        self.assertEqual([fewest_changes([[4, 9, 2, 7, 5]], (0, column)) for column in range(5)], [1, 3, 0, 1, 0])
        self.assertEqual([fewest_changes([[4], [9], [2], [7]], (row, 0)) for row in range(4)], [0, 0, 2, 1])
        self.assertEqual(fewest_changes([[7]], (0, 0)), 0)

    def test_equal_values_have_to_be_changed(self):
        self.assertEqual(fewest_changes([[3, 3, 3]], (0, 0)), 2)
        self.assertEqual(fewest_changes([[3], [3], [3]], (2, 0)), 2)
        self.assertEqual(fewest_changes([[3] * 8] * 8, (7, 0)), 14)
        self.assertEqual(fewest_changes([[3, 4], [3, 3]], (1, 0)), 1)
        self.assertEqual(fewest_changes([[3, 2], [3, 3]], (1, 0)), 1)

    def test_eight_rows_and_eight_columns(self):
        table = shaped(list(range(64)), 8)
        self.assertEqual({fewest_changes(table, place) for place in places_in(table)}, {0})
        table = shaped(list(range(64, 0, -1)), 8)
        self.assertEqual(fewest_changes(table, (7, 0)), 7)
        self.assertEqual(fewest_changes(table, (0, 0)), 7)
        self.assertEqual(fewest_changes(table, (7, 7)), 7)
        self.assertEqual(fewest_changes(table, (0, 7)), 0)

    def test_twenty_digits_and_below_zero(self):
        self.assertEqual(fewest_changes([[BIG, BIG - 1]], (0, 0)), 1)
        self.assertEqual(fewest_changes([[BIG - 1, BIG]], (0, 0)), 0)
        self.assertEqual(fewest_changes([[-BIG], [1 - BIG]], (1, 0)), 0)
        self.assertEqual(fewest_changes([[-1, -2], [-3, -2]], (1, 0)), 1)
        self.assertEqual(fewest_changes([[-1, -3], [-3, -4]], (1, 0)), 2)
        self.assertEqual(fewest_changes([[-1, -2], [-3, -2]], (0, 0)), 1)

    def test_all_routes(self):
        for table in small_tables():
            for place in places_in(table):
                self.assertEqual(fewest_changes(table, place), fewest_along_routes(table, place), (table, place))

    def test_all_routes_of_long_tables(self):
        for table in all_tables():
            for row, column in places_in(table):
                if row + len(table[0]) - column <= 9:
                    told = fewest_along_routes(table, (row, column))
                    self.assertEqual(fewest_changes(table, (row, column)), told, (table, row, column))

    def test_all_routes_to_the_last_place(self):
        for table in all_tables()[::4]:
            place = (len(table) - 1, 0)
            self.assertEqual(fewest_changes(table, place), fewest_along_routes(table, place), table)

    def test_none_exactly_where_a_place_is_found(self):
        for table in all_tables():
            found = [place for place in places_in(table) if fewest_changes(table, place) == 0]
            self.assertEqual(found, found_places(table), table)


class NoFewerTest(unittest.TestCase):
    """The least number of changed values, to any whole numbers, by going through all tables."""

    def test_all_changes(self):
        for rows, columns in sizes(6) + [(1, 7), (7, 1), (2, 4), (4, 2)]:
            for place in places_of(rows, columns):
                tables = self.distances(rows, columns, place)
                if rows * columns > 6:
                    tables = dict(list(tables.items())[::9])
                for values, distance in tables.items():
                    self.assertEqual(fewest_changes(shaped(values, columns), place), distance, (values, place))

    def distances(self, rows, columns, place):
        """For each table the least number of changes to one in which a place is found.

        Only whether a value is less than, equal to or greater than the one at the
        place decides whether the place is found, so three numbers are all numbers.
        """
        own = place[0] * columns + place[1]
        tables = [values for values in product((4, 5, 6), repeat=rows * columns) if values[own] == 5]
        done = {values: 0 for values in tables if steps(shaped(values, columns), 5)[1] == place}
        reached = list(done)
        for values in reached:
            for number in range(rows * columns):
                for new in (4, 5, 6):
                    other = (*values[:number], new, *values[number + 1:])
                    if number != own and other not in done:
                        done[other] = done[values] + 1
                        reached.append(other)
        self.assertEqual(len(done), len(tables))
        return done


class ChangedTest(unittest.TestCase):
    def assert_changed(self, table, place):
        """The place is found in the changed table, and nothing else is changed than has to be."""
        other = changed(table, place)
        value = table[place[0]][place[1]]
        self.assertEqual([len(row) for row in other], [len(row) for row in table])
        news = [
            other[row][column] for row, column in places_in(table) if other[row][column] != table[row][column]
        ]
        self.assertEqual(other[place[0]][place[1]], value, (table, place))
        self.assertEqual(len(news), fewest_changes(table, place), (table, place))
        self.assertTrue(all(new in (value - 1, value + 1) for new in news), (table, place))
        self.assertIs(is_found(other, place), True, (table, place))
        self.assertEqual(fewest_changes(other, place), 0)

    def test_the_only_table(self):
        self.assertEqual(changed([[3, 3, 3]], (0, 0)), [[3, 4, 4]])
        self.assertEqual(changed([[3], [3], [3]], (2, 0)), [[2], [2], [3]])
        self.assertEqual(changed([[3, 2], [7, 3]], (1, 0)), [[3, 8], [7, 3]])
        self.assertEqual(changed([[3, 9], [7, 3]], (1, 1)), [[3, 2], [7, 3]])
        self.assertEqual(changed([[9, -5, 0]], (0, 1)), [[9, -5, 0]])
        self.assertEqual(changed([[7]], (0, 0)), [[7]])

    def test_twenty_digits_and_below_zero(self):
        self.assertEqual(changed([[BIG, BIG]], (0, 0)), [[BIG, BIG + 1]])
        self.assertEqual(changed([[-BIG], [-BIG]], (1, 0)), [[-BIG - 1], [-BIG]])
        self.assertEqual(changed([[0, -1]], (0, 0)), [[0, 1]])
        self.assertEqual(changed([[0], [0]], (1, 0)), [[-1], [0]])
        self.assert_changed([[BIG, -BIG], [-BIG, BIG]], (1, 0))

    def test_equal_values(self):
        for rows, columns in sizes(64):
            table = [[3] * columns for _ in range(rows)]
            for place in [(0, 0), (rows - 1, 0), (rows - 1, columns - 1), (rows // 2, columns // 2)]:
                self.assert_changed(table, place)

    def test_small_tables(self):
        for table in small_tables():
            for place in places_in(table):
                self.assert_changed(table, place)

    def test_long_tables(self):
        for table in all_tables():
            for place in places_in(table):
                self.assert_changed(table, place)
