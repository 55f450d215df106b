"""Points [2] and [3]: what holds for every function."""

import inspect
import unittest
from copy import deepcopy
from time import process_time

from halftables import counts, search
from reference import BIG, all_tables, drawn, keys_around, places_in, shaped

INTERFACE = {
    search: {
        "path": ["table", "key"], "end": ["table", "key"],
        "path_from_below": ["table", "key"], "end_from_below": ["table", "key"],
        "is_found": ["table", "place"], "found_places": ["table"], "found_from_below": ["table"],
        "missed_keys": ["table"], "all_found": ["table"],
    },
    counts: {
        "count_found": ["rows", "columns", "place"], "count_found_twice": ["rows", "columns", "place"],
        "count_found_rising": ["rows", "columns", "place"], "count_rising": ["rows", "columns"],
        "found_in_all": ["rows", "columns"], "count_ends": ["rows", "columns", "end"],
        "count_behaviours": ["rows", "columns", "found"],
    },
}
RIGHT = {"table": [[1, 5, 4], [2, 3, 9]], "key": 3, "place": (1, 0), "rows": 2, "columns": 3, "end": (2, 1), "found": 4}
SECONDS = 5
LONG = [
    shaped([number * number * number % (2 * BIG) - BIG for number in drawn(64, 5)], 8),
    shaped([BIG - place for place in range(64)], 8),
    shaped([place - BIG for place in range(64)], 8),
    [[BIG] * 8 for _ in range(8)],
]


def table_calls(table, key, place):
    """What each function of search.py returns."""
    return [
        search.path(table, key), search.end(table, key), search.path_from_below(table, key),
        search.end_from_below(table, key), search.is_found(table, place), search.found_places(table),
        search.found_from_below(table), search.missed_keys(table), search.all_found(table),
    ]


class InterfaceTest(unittest.TestCase):
    def test_names_and_files(self):
        for module, functions in INTERFACE.items():
            for name, parameters in functions.items():
                function = getattr(module, name)
                self.assertEqual(list(inspect.signature(function).parameters), parameters, name)
                self.assertEqual(function.__module__, module.__name__)

    def test_by_position_and_by_name(self):
        for module, functions in INTERFACE.items():
            for name, parameters in functions.items():
                function = getattr(module, name)
                given = {parameter: RIGHT[parameter] for parameter in parameters}
                self.assertEqual(function(**given), function(*given.values()), name)
                self.assertEqual(function(**dict(reversed(given.items()))), function(*given.values()), name)

    def test_kinds_of_results(self):
        told = table_calls(RIGHT["table"], 3, (1, 0))
        looked, last, below, last_below, found, places, places_below, missed, whether = told
        for places_told in (looked, below, places, places_below):
            self.assertIs(type(places_told), list)
            for place in places_told:
                self.assertIs(type(place), tuple)
                self.assertEqual([type(number) for number in place], [int, int])
        self.assertEqual([type(last), type(last_below), type(missed)], [tuple, tuple, list])
        self.assertEqual([type(found), type(whether)], [bool, bool])
        for name, parameters in INTERFACE[counts].items():
            self.assertIs(type(getattr(counts, name)(*[RIGHT[parameter] for parameter in parameters])), int, name)

    def test_lists_of_places_ascend(self):
        for table in all_tables():
            for places in (search.found_places(table), search.found_from_below(table), search.missed_keys(table)):
                self.assertTrue(all(low < high for low, high in zip(places, places[1:])), table)


class UnchangedTest(unittest.TestCase):
    def test_tables_stay_as_they_are(self):
        for table in all_tables():
            before = deepcopy(table)
            rows = list(table)
            for key in keys_around(table)[::5]:
                table_calls(table, key, places_in(table)[0])
            self.assertEqual(table, before)
            self.assertTrue(all(row is kept for row, kept in zip(table, rows)))

    def test_one_list_as_several_rows(self):
        row = [4, 2, 7]
        self.assertEqual(search.found_places([row, row]), search.found_places([[4, 2, 7], [4, 2, 7]]))
        self.assertEqual(search.path_from_below([row, row], 5), search.path_from_below([[4, 2, 7], [4, 2, 7]], 5))
        self.assertEqual(row, [4, 2, 7])

    def test_returned_lists_are_new(self):
        table = [[7, 6, 5], [2, 9, 8]]
        before = table_calls(deepcopy(table), 3, (0, 0))
        for told in table_calls(table, 3, (0, 0)):
            if isinstance(told, list):
                told.append("changed")
                told[0] = None
        self.assertEqual(table, [[7, 6, 5], [2, 9, 8]])
        self.assertEqual(table_calls(table, 3, (0, 0)), before)

    def test_later_changes_of_the_table_do_not_reach_results(self):
        table = [[1, 5, 4], [2, 3, 9]]
        told = table_calls(table, 3, (0, 0))
        before = deepcopy(told)
        table[0][0] = 77
        table.append([0, 0, 0])
        self.assertEqual(told, before)

    def test_again_after_a_change_of_the_table(self):
        table = [[1, 5, 4], [2, 3, 9]]
        self.assertEqual(search.end(table, 3), (2, 0))
        table[1][0] = 3
        self.assertEqual(search.end(table, 3), (1, 0))
        self.assertEqual(search.missed_keys(table), [5])


class BoundsTest(unittest.TestCase):
    """Point [3]."""

    def assert_quick(self, function, *given):
        begun = process_time()
        function(*given)
        self.assertLess(process_time() - begun, SECONDS, function)

    def test_long_tables(self):
        for table in LONG:
            for key in (-BIG, BIG, 0, table[3][3], table[7][0]):
                for name in ("path", "end", "path_from_below", "end_from_below"):
                    self.assert_quick(getattr(search, name), table, key)
            for name in ("found_places", "found_from_below", "missed_keys", "all_found"):
                self.assert_quick(getattr(search, name), table)
            for place in places_in(table):
                self.assert_quick(search.is_found, table, place)

    def test_long_counts(self):
        for place in places_in(LONG[0]):
            for name in ("count_found", "count_found_twice", "count_found_rising"):
                self.assert_quick(getattr(counts, name), 8, 8, place)
        for name in ("count_rising", "found_in_all"):
            self.assert_quick(getattr(counts, name), 8, 8)
        for number in range(8):
            self.assert_quick(counts.count_ends, 8, 8, (number, -1))
            self.assert_quick(counts.count_ends, 8, 8, (8, number))
        for found in range(65):
            self.assert_quick(counts.count_behaviours, 8, 8, found)
