"""Wrong inputs: each error with its field, and the order of the checks."""

from halftables import alike, bounds, changes, counts, kinds, search, sums, text
from halftables.errors import InvalidKey, InvalidNumber, InvalidTable, InvalidText, InvalidValues, UnknownPlace
from wrong import (
    NO_LISTS_OF_VALUES, NO_TABLES, NO_TEXTS, NO_WHOLE_NUMBERS, WRONG_ROWS, WRONG_TEXTS, WRONG_VALUES, Odd, WrongTest,
    no_places,
)

TABLE = [[1, 5, 4], [2, 3, 9]]
WITH_KEY = (search.path, search.end, search.path_from_below, search.end_from_below, kinds.Seeker)
TABLE_ONLY = (
    search.found_places, search.found_from_below, search.missed_keys, search.all_found,
    bounds.levels, bounds.seen_places, bounds.ends_of_gaps, text.format_table,
)
TABLE_AND_PLACE = (search.is_found, bounds.bounds, changes.fewest_changes, changes.changed)
TWO_TABLES = (alike.are_alike, alike.parting_key)
WITH_PLACE = (counts.count_found, counts.count_found_twice, counts.count_found_rising)
SIZE_ONLY = (counts.count_rising, counts.found_in_all)
WITH_TOTAL = (sums.pair_path, sums.pair_end)
VALUES_ONLY = (sums.found_pairs, sums.all_pairs_found)


class WrongTableTest(WrongTest):
    def calls(self):
        """Each function with its arguments after the table: right ones and wrong ones."""
        for function in WITH_KEY:
            yield from [(function, 1), (function, None)]
        for function in TABLE_ONLY:
            yield (function,)
        for function in TABLE_AND_PLACE:
            yield from [(function, (0, 0)), (function, (9, 9)), (function, None)]
        for function in TWO_TABLES:
            yield from [(function, TABLE), (function, [[1], [2, 3]]), (function, None)]

    def test_no_tables(self):
        for function, *more in self.calls():
            for thing in NO_TABLES:
                self.assert_raised(InvalidTable, "row", None, function, thing, *more)

    def test_wrong_rows(self):
        for function, *more in self.calls():
            for row, table in WRONG_ROWS:
                self.assert_raised(InvalidTable, "row", row, function, table, *more)

    def test_longest_tables_are_taken(self):
        for rows, columns in [(1, 1), (1, 8), (8, 1), (8, 8)]:
            table = [[0] * columns for _ in range(rows)]
            self.assertEqual(search.path(table, 0), [(0, columns - 1)])
            self.assertEqual(search.found_places(table), [(0, columns - 1)])
            self.assertEqual(bounds.levels(table), table)
            self.assertEqual(bounds.ends_of_gaps(table), [(0, -1), (rows, columns - 1)])
            self.assertEqual(len(bounds.seen_places(table)), rows + columns - 1)
            self.assertIs(alike.are_alike(table, table), True)


class WrongOtherTest(WrongTest):
    """The second one of two tables, the first one right or wrong."""

    def test_no_tables(self):
        for function in TWO_TABLES:
            for thing in NO_TABLES:
                for table in (TABLE, [[7]], [[0] * 8] * 8):
                    self.assert_raised(InvalidTable, "row", None, function, table, thing)

    def test_wrong_rows(self):
        for function in TWO_TABLES:
            for row, other in WRONG_ROWS:
                for table in (TABLE, [[7]], [[0] * 8] * 8):
                    self.assert_raised(InvalidTable, "row", row, function, table, other)

    def test_both_wrong(self):
        for function in TWO_TABLES:
            self.assert_raised(InvalidTable, "row", 1, function, [[1, 2], [3, True]], [[False]])
            self.assert_raised(InvalidTable, "row", 0, function, [[False]], [[1, 2], [3, True]])
            self.assert_raised(InvalidTable, "row", 2, function, [[1], [2], [3, 4]], None)
            self.assert_raised(InvalidTable, "row", None, function, None, [[1], [2], [3, 4]])
            self.assert_raised(InvalidTable, "row", None, function, [[1]] * 9, [[1], []])
            self.assert_raised(InvalidTable, "row", 1, function, [[1], []], [[1]] * 9)

    def test_another_size_is_taken(self):
        for function in TWO_TABLES:
            function(TABLE, [[7]])
            function([[7]], [[0] * 8] * 8)


class WrongKeyTest(WrongTest):
    def test_wrong_keys(self):
        for function in WITH_KEY:
            for thing in NO_WHOLE_NUMBERS:
                self.assert_raised(InvalidKey, "key", thing, function, TABLE, thing)


class WrongPlaceTest(WrongTest):
    def test_places_of_a_table(self):
        for function in TABLE_AND_PLACE:
            for table in (TABLE, [[7]], [[0] * 8 for _ in range(8)]):
                for thing in no_places(len(table), len(table[0])):
                    self.assert_raised(UnknownPlace, "place", thing, function, table, thing)

    def test_places_of_a_size(self):
        for function in WITH_PLACE:
            for rows, columns in [(1, 1), (2, 3), (3, 2), (8, 8)]:
                for thing in no_places(rows, columns):
                    self.assert_raised(UnknownPlace, "place", thing, function, rows, columns, thing)

    def test_last_places_are_taken(self):
        self.assertIs(search.is_found(TABLE, (1, 2)), True)
        for table in (TABLE, [[7]], [[0] * 8 for _ in range(8)]):
            last = (len(table) - 1, len(table[0]) - 1)
            for function in TABLE_AND_PLACE:
                function(table, last)
        for function in WITH_PLACE:
            self.assertGreater(function(2, 3, (1, 2)), 0)

    def test_ends(self):
        for rows, columns in [(1, 1), (2, 3), (3, 2), (8, 8)]:
            inside = [(row, column) for row in range(rows) for column in range(columns)]
            beside = [
                (-1, 0), (-1, -1), (0, columns), (rows, -1), (rows, columns), (0, -2), (rows + 1, 0), (-1, columns - 1),
                (rows - 1, columns), (rows + 1, -1), (-rows, -1), (rows, -columns - 1),
            ]
            others = [[0, -1], [rows, 0], (0, -1, 0), (rows,), None, -1, "0", {0: -1}, Odd()]
            parts = [(thing, -1) for thing in NO_WHOLE_NUMBERS] + [(rows, thing) for thing in NO_WHOLE_NUMBERS]
            for thing in inside + beside + others + parts:
                self.assert_raised(UnknownPlace, "place", thing, counts.count_ends, rows, columns, thing)


class WrongNumberTest(WrongTest):
    NUMBERS = NO_WHOLE_NUMBERS + [0, -1, -8, 9, 64, 10 ** 19, -(10 ** 19)]

    def calls(self):
        """Each function with its third argument: a right one and wrong ones."""
        for function in WITH_PLACE:
            yield from [(function, (0, 0)), (function, (9, 9)), (function, None)]
        for function in SIZE_ONLY:
            yield (function,)
        yield from [(counts.count_ends, (0, -1)), (counts.count_ends, (0, 0)), (counts.count_ends, None)]
        yield from [(counts.count_behaviours, 1), (counts.count_behaviours, -1), (counts.count_behaviours, None)]

    def test_wrong_rows(self):
        for function, *more in self.calls():
            for thing in self.NUMBERS:
                self.assert_raised(InvalidNumber, "number", thing, function, thing, 1, *more)

    def test_wrong_columns(self):
        for function, *more in self.calls():
            for thing in self.NUMBERS:
                self.assert_raised(InvalidNumber, "number", thing, function, 1, thing, *more)

    def test_rows_come_before_columns(self):
        for function, *more in self.calls():
            for thing in self.NUMBERS:
                self.assert_raised(InvalidNumber, "number", thing, function, thing, "columns", *more)

    def test_found(self):
        for rows, columns in [(1, 1), (2, 3), (8, 8)]:
            for thing in NO_WHOLE_NUMBERS + [-1, 65, 66, -64, 10 ** 19]:
                self.assert_raised(InvalidNumber, "number", thing, counts.count_behaviours, rows, columns, thing)
            for found in (0, 64):
                self.assertIsInstance(counts.count_behaviours(rows, columns, found), int)

    def test_greatest_sizes_are_taken(self):
        for rows, columns in [(1, 1), (1, 8), (8, 1), (8, 8)]:
            self.assertGreater(counts.count_rising(rows, columns), 0)
            self.assertGreater(counts.found_in_all(rows, columns), 0)
            self.assertGreater(counts.count_ends(rows, columns, (rows - 1, -1)), 0)
            self.assertEqual(counts.count_behaviours(rows, columns, 1), 1)


class WrongValuesTest(WrongTest):
    def calls(self):
        """Each function with its argument after the values: right ones and wrong ones."""
        for function in WITH_TOTAL:
            yield from [(function, 1), (function, None), (function, True)]
        for function in VALUES_ONLY:
            yield (function,)

    def test_no_lists_of_values(self):
        for function, *more in self.calls():
            for thing in NO_LISTS_OF_VALUES:
                self.assert_raised(InvalidValues, "index", None, function, thing, *more)

    def test_wrong_values(self):
        for function, *more in self.calls():
            for index, values in WRONG_VALUES:
                self.assert_raised(InvalidValues, "index", index, function, values, *more)

    def test_wrong_totals(self):
        for function in WITH_TOTAL:
            for values in ([1, 2], [5, 1, 3], [0] * 30):
                for thing in NO_WHOLE_NUMBERS:
                    self.assert_raised(InvalidKey, "key", thing, function, values, thing)

    def test_shortest_and_longest_lists_are_taken(self):
        for values in ([0, 0], [0] * 30):
            self.assertEqual(sums.pair_path(values, 0), [(0, len(values) - 1)])
            self.assertEqual(sums.pair_end(values, 1), (len(values) - 1, len(values) - 1))
            self.assertEqual(sums.found_pairs(values), [(0, len(values) - 1)])
            self.assertIs(sums.all_pairs_found(values), len(values) == 2)


class WrongTextTest(WrongTest):
    def test_no_texts(self):
        for thing in NO_TEXTS:
            self.assert_raised(InvalidText, "line", None, text.parse_table, thing)

    def test_wrong_texts(self):
        for line, wrong in WRONG_TEXTS:
            self.assert_raised(InvalidText, "line", line, text.parse_table, wrong)

    def test_shortest_and_longest_texts_are_taken(self):
        for rows, columns in [(1, 1), (1, 8), (8, 1), (8, 8)]:
            table = [[0] * columns for _ in range(rows)]
            self.assertEqual(text.parse_table(text.format_table(table)), table)
