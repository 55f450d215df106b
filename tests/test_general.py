"""Points [2] and [3]: what holds for every function."""

import inspect
import unittest
from copy import deepcopy
from time import process_time

from halftables import alike, bounds, changes, counts, kinds, search, sums, text
from reference import BIG, all_lists, all_tables, drawn, keys_around, pairs_in, places_in, shaped, turn

INTERFACE = {
    search: {
        "path": ["table", "key"], "end": ["table", "key"],
        "path_from_below": ["table", "key"], "end_from_below": ["table", "key"],
        "is_found": ["table", "place"], "found_places": ["table"], "found_from_below": ["table"],
        "missed_keys": ["table"], "all_found": ["table"],
    },
    counts: {
        "count_found": ["rows", "columns", "place"], "count_found_twice": ["rows", "columns", "place"],
        "count_found_rising": ["rows", "columns", "place"], "count_rising": ["rows", "columns"],
        "found_in_all": ["rows", "columns"], "count_ends": ["rows", "columns", "end"],
        "count_behaviours": ["rows", "columns", "found"],
    },
    bounds: {
        "levels": ["table"], "bounds": ["table", "place"], "seen_places": ["table"], "ends_of_gaps": ["table"],
    },
    alike: {"are_alike": ["table", "other"], "parting_key": ["table", "other"]},
    changes: {"fewest_changes": ["table", "place"], "changed": ["table", "place"]},
    sums: {
        "pair_path": ["values", "total"], "pair_end": ["values", "total"], "found_pairs": ["values"],
        "all_pairs_found": ["values"],
    },
    text: {"format_table": ["table"], "parse_table": ["text"]},
}
METHODS = {"__init__": ["table", "key"], "step": [], "change": ["place", "value"], "undo": []}
PROPERTIES = ["rows", "spot", "looked", "ended", "found"]
RIGHT = {
    "table": [[1, 5, 4], [2, 3, 9]], "key": 3, "place": (1, 0), "rows": 2, "columns": 3, "end": (2, 1), "found": 4,
    "other": [[1, 5, 4], [1, 3, 9]], "values": [4, 1, 3], "total": 4, "text": "3 -4\n0 10", "value": 7,
}
PLACE = (int, int)
KINDS = {
    "path": [PLACE], "end": PLACE, "path_from_below": [PLACE], "end_from_below": PLACE, "is_found": bool,
    "found_places": [PLACE], "found_from_below": [PLACE], "missed_keys": [int], "all_found": bool,
    "count_found": int, "count_found_twice": int, "count_found_rising": int, "count_rising": int, "found_in_all": int,
    "count_ends": int, "count_behaviours": int,
    "levels": [[int]], "bounds": (int, int), "seen_places": [PLACE], "ends_of_gaps": [PLACE],
    "are_alike": bool, "parting_key": int, "fewest_changes": int, "changed": [[int]],
    "pair_path": [PLACE], "pair_end": PLACE, "found_pairs": [PLACE], "all_pairs_found": bool,
    "format_table": str, "parse_table": [[int]],
    "rows": [[int]], "spot": PLACE, "looked": [PLACE], "ended": bool, "found": bool,
}
SECONDS = 5
LONG = [
    shaped([number * number * number % (2 * BIG) - BIG for number in drawn(64, 5)], 8),
    shaped([BIG - place for place in range(64)], 8),
    shaped([place - BIG for place in range(64)], 8),
    [[BIG] * 8 for _ in range(8)],
]
LONG_LISTS = [
    [number * number * number % (2 * BIG) - BIG for number in drawn(30, 5)],
    [BIG - number for number in range(30)],
    [number - BIG for number in range(30)],
    [BIG] * 30,
]


def table_calls(table, key, place, other):
    """What each function that takes a table returns, with its name."""
    right = {"table": table, "key": key, "place": place, "other": other}
    return {
        name: getattr(module, name)(*[right[parameter] for parameter in parameters])
        for module, functions in INTERFACE.items() for name, parameters in functions.items()
        if parameters[0] == "table"
    }


def list_calls(values, total):
    """What each function that takes a list of values returns, with its name."""
    right = {"values": values, "total": total}
    return {
        name: getattr(sums, name)(*[right[parameter] for parameter in parameters])
        for name, parameters in INTERFACE[sums].items()
    }


def lists_in(thing):
    """The list objects in a thing, each as often as it occurs."""
    if not isinstance(thing, (list, tuple)):
        return []
    inner = [part for item in thing for part in lists_in(item)]
    return [thing] + inner if isinstance(thing, list) else inner


def is_kind(thing, kind):
    """Whether a thing is of a kind, and what it contains as well."""
    if isinstance(kind, list):
        return type(thing) is list and all(is_kind(part, kind[0]) for part in thing)
    if isinstance(kind, tuple):
        same = type(thing) is tuple and len(thing) == len(kind)
        return same and all(is_kind(part, inner) for part, inner in zip(thing, kind))
    return type(thing) is kind


class InterfaceTest(unittest.TestCase):
    def test_names_and_files(self):
        for module, functions in INTERFACE.items():
            for name, parameters in functions.items():
                function = getattr(module, name)
                self.assertEqual(list(inspect.signature(function).parameters), parameters, name)
                self.assertEqual(function.__module__, module.__name__)

    def test_by_position_and_by_name(self):
        for module, functions in INTERFACE.items():
            for name, parameters in functions.items():
                function = getattr(module, name)
                given = {parameter: RIGHT[parameter] for parameter in parameters}
                self.assertEqual(function(**given), function(*given.values()), name)
                self.assertEqual(function(**dict(reversed(given.items()))), function(*given.values()), name)

    def test_kinds_of_results(self):
        for module, functions in INTERFACE.items():
            for name, parameters in functions.items():
                told = getattr(module, name)(*[RIGHT[parameter] for parameter in parameters])
                self.assertTrue(is_kind(told, KINDS[name]), (name, told))

    def test_kinds_for_all_tables(self):
        for table in all_tables():
            for name, told in table_calls(table, 3, (len(table) - 1, 0), turn(table)).items():
                if name in ("bounds", "parting_key"):
                    continue
                self.assertTrue(is_kind(told, KINDS[name]), (name, told))

    def test_kinds_for_all_lists(self):
        for values in all_lists():
            for total in (0, values[0] + values[-1], -BIG):
                for name, told in list_calls(values, total).items():
                    self.assertTrue(is_kind(told, KINDS[name]), (name, told))

    def test_seeker(self):
        self.assertEqual(kinds.Seeker.__module__, "halftables.kinds")
        for name, parameters in METHODS.items():
            method = vars(kinds.Seeker)[name]
            self.assertEqual(list(inspect.signature(method).parameters)[1:], parameters, name)
        for name in PROPERTIES:
            self.assertIsInstance(vars(kinds.Seeker)[name], property)

    def test_seeker_by_name(self):
        for key in (2, 3):
            seeker = kinds.Seeker(key=key, table=RIGHT["table"])
            self.assertEqual(seeker.change(value=7, place=(1, 1)), 3)
            self.assertEqual(seeker.rows, [[1, 5, 4], [2, 7, 9]])

    def test_kinds_of_what_a_seeker_tells(self):
        for key in (2, 3, -8, 10):
            seeker = kinds.Seeker(RIGHT["table"], key)
            for _ in range(5):
                for name in PROPERTIES:
                    self.assertTrue(is_kind(getattr(seeker, name), KINDS[name]), name)
                self.assertIs(type(seeker.change((0, 0), 1)), int)
                if not seeker.ended:
                    self.assertTrue(is_kind(seeker.step(), PLACE))
            self.assertIs(seeker.ended, True)
            self.assertIsNone(seeker.undo())

    def test_pairs_ascend(self):
        for values in all_lists():
            told = sums.found_pairs(values)
            self.assertTrue(all(low < high for low, high in zip(told, told[1:])), values)
            self.assertTrue(set(told) <= set(pairs_in(values)), values)

    def test_lists_again_with_equal_arguments(self):
        for values in all_lists():
            self.assertEqual(list_calls(list(values), 3), list_calls(values, 3))

    def test_lists_of_places_ascend(self):
        for table in all_tables():
            for ascending in (
                search.found_places(table), search.found_from_below(table), search.missed_keys(table),
                bounds.seen_places(table),
            ):
                self.assertTrue(all(low < high for low, high in zip(ascending, ascending[1:])), table)

    def test_again_with_equal_arguments(self):
        for table in all_tables():
            told = table_calls(table, 3, (0, 0), turn(table))
            self.assertEqual(table_calls(deepcopy(table), 3, (0, 0), turn(table)), told)


class UnchangedTest(unittest.TestCase):
    def test_tables_stay_as_they_are(self):
        for table in all_tables():
            before = deepcopy(table)
            rows = list(table)
            other = turn(table)
            place = (len(table) - 1, 0)
            for key in keys_around(table)[::5]:
                table_calls(table, key, place, other)
                table_calls(other, key, (0, 0), table)
            self.assertEqual((table, other), (before, turn(before)))
            self.assertTrue(all(row is kept for row, kept in zip(table, rows)))

    def test_one_list_as_several_rows(self):
        row = [4, 2, 7]
        for place in [(0, 0), (1, 0), (2, 1)]:
            told = table_calls([row, row, row], 5, place, [row, row])
            same = table_calls([[4, 2, 7], [4, 2, 7], [4, 2, 7]], 5, place, [[4, 2, 7], [4, 2, 7]])
            self.assertEqual(told, same)
            self.assertEqual(row, [4, 2, 7])

    def test_no_list_occurs_twice(self):
        row = [4, 2, 7]
        for table in [[[7, 6, 5], [2, 9, 8]], [row, row], [[1]], [[0] * 8] * 8, [[1, 2], [2, 3]]]:
            for place in places_in(table):
                for name, told in table_calls(table, 3, place, table).items():
                    lists = lists_in(told)
                    self.assertEqual(len({id(part) for part in lists}), len(lists), name)
                    passed = {id(part) for part in lists_in(table)}
                    self.assertFalse(any(id(part) in passed for part in lists), name)

    def test_returned_lists_are_new(self):
        table = [[7, 6, 5], [2, 9, 8]]
        other = [[3, 3]]
        for place in places_in(table):
            before = table_calls(deepcopy(table), 3, place, deepcopy(other))
            for told in table_calls(table, 3, place, other).values():
                for part in lists_in(told):
                    part.append("changed")
                    part[0] = None
            self.assertEqual((table, other), ([[7, 6, 5], [2, 9, 8]], [[3, 3]]))
            self.assertEqual(table_calls(table, 3, place, other), before)

    def test_later_changes_of_the_table_do_not_reach_results(self):
        table = [[1, 5, 4], [2, 3, 9]]
        told = table_calls(table, 3, (0, 0), table)
        before = deepcopy(told)
        table[0][0] = 77
        table.append([0, 0, 0])
        self.assertEqual(told, before)

    def test_again_after_a_change_of_the_table(self):
        table = [[1, 5, 4], [2, 3, 9]]
        self.assertEqual((search.end(table, 3), bounds.levels(table)), ((2, 0), [[1, 4, 4], [2, 4, 9]]))
        table[1][0] = 3
        self.assertEqual((search.end(table, 3), bounds.levels(table)), ((1, 0), [[1, 4, 4], [3, 4, 9]]))
        self.assertEqual(search.missed_keys(table), [5])


class UnchangedListsTest(unittest.TestCase):
    def test_lists_stay_as_they_are(self):
        for values in all_lists():
            before = list(values)
            for total in (0, values[0] + values[-1], values[0] + values[1], BIG):
                list_calls(values, total)
            self.assertEqual(values, before)

    def test_returned_lists_are_new(self):
        values = [4, 1, 3]
        before = list_calls([4, 1, 3], 4)
        for told in list_calls(values, 4).values():
            for part in lists_in(told):
                self.assertIsNot(part, values)
                part.append("changed")
                part[0] = None
        self.assertEqual(values, [4, 1, 3])
        self.assertEqual(list_calls(values, 4), before)

    def test_later_changes_of_the_list_do_not_reach_results(self):
        values = [4, 1, 3]
        told = list_calls(values, 4)
        before = deepcopy(told)
        values[0] = 3
        values.append(0)
        self.assertEqual(told, before)
        self.assertEqual((sums.pair_path(values, 4), sums.found_pairs([3, 1, 3])), (
            [(0, 3), (1, 3), (2, 3)], [(0, 1), (0, 2)],
        ))

    def test_returned_tables_are_new(self):
        told = text.parse_table("4 2\n4 2\n4 2")
        self.assertEqual(len({id(part) for part in lists_in(told)}), 4)
        told[0][0] = None
        told.pop()
        self.assertEqual(text.parse_table("4 2\n4 2\n4 2"), [[4, 2], [4, 2], [4, 2]])


class BoundsTest(unittest.TestCase):
    """Point [3]."""

    def assert_quick(self, function, *given):
        begun = process_time()
        function(*given)
        self.assertLess(process_time() - begun, SECONDS, function)

    def test_long_tables(self):
        for table in LONG:
            for key in (-BIG, BIG, 0, table[3][3], table[7][0]):
                for name in ("path", "end", "path_from_below", "end_from_below"):
                    self.assert_quick(getattr(search, name), table, key)
            for name in ("found_places", "found_from_below", "missed_keys", "all_found"):
                self.assert_quick(getattr(search, name), table)
            for place in places_in(table):
                self.assert_quick(search.is_found, table, place)

    def test_long_tables_beyond_the_search(self):
        for table in LONG:
            for name in ("levels", "seen_places", "ends_of_gaps"):
                self.assert_quick(getattr(bounds, name), table)
            for place in places_in(table):
                self.assert_quick(bounds.bounds, table, place)
                self.assert_quick(changes.fewest_changes, table, place)
                self.assert_quick(changes.changed, table, place)
            for other in LONG:
                self.assert_quick(alike.are_alike, table, other)
                self.assert_quick(alike.parting_key, table, other)

    def test_long_counts(self):
        for place in places_in(LONG[0]):
            for name in ("count_found", "count_found_twice", "count_found_rising"):
                self.assert_quick(getattr(counts, name), 8, 8, place)
        for name in ("count_rising", "found_in_all"):
            self.assert_quick(getattr(counts, name), 8, 8)
        for number in range(8):
            self.assert_quick(counts.count_ends, 8, 8, (number, -1))
            self.assert_quick(counts.count_ends, 8, 8, (8, number))
        for found in range(65):
            self.assert_quick(counts.count_behaviours, 8, 8, found)

    def test_long_lists(self):
        for values in LONG_LISTS:
            for first, second in pairs_in(values):
                self.assert_quick(sums.pair_path, values, values[first] + values[second])
                self.assert_quick(sums.pair_end, values, values[first] + values[second] + 1)
            self.assert_quick(sums.found_pairs, values)
            self.assert_quick(sums.all_pairs_found, values)

    def test_long_texts(self):
        for table in LONG:
            self.assert_quick(text.format_table, table)
            self.assert_quick(text.parse_table, text.format_table(table))
        for wrong in ("1 " * 1000, "\n" * 2000, " " * 2000, "-" * 2000, "0" * 2000, "~" * 2000, "7" * 19 + "\n1" * 900):
            self.assert_quick(self.assertRaises, ValueError, text.parse_table, wrong)

    def test_long_seekers(self):
        for table in LONG:
            for key in (-BIG, BIG, 0, table[3][3]):
                seeker = kinds.Seeker(table, key)
                while not seeker.ended:
                    self.assert_quick(seeker.step)
                for place in places_in(table):
                    self.assert_quick(seeker.change, place, key)
                for _ in places_in(table) + seeker.looked:
                    self.assert_quick(seeker.undo)
