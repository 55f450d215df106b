"""The whole program: its errors, and what its parts say of each other."""

import unittest
from itertools import product

from halftables import alike, bounds, changes, counts, kinds, search, sums, text
from halftables.errors import InvalidKey, InvalidNumber, InvalidTable, InvalidText, InvalidValues, UnknownPlace
from reference import BIG, all_lists, all_tables, keys_around, pairs_in, places_in, shaped, sum_steps, turn, values_of
from test_general import INTERFACE, RIGHT
from wrong import (
    NO_LISTS_OF_VALUES, NO_TABLES, NO_TEXTS, NO_WHOLE_NUMBERS, WRONG_ROWS, WRONG_TEXTS, WRONG_VALUES, WrongTest,
    no_places,
)


def tables_not_taken():
    return [(None, thing) for thing in NO_TABLES] + WRONG_ROWS


def themselves(things):
    """What is not taken, where the field holds the thing itself."""
    return [(thing, thing) for thing in things]


NOT_TAKEN = {
    "table": (InvalidTable, "row", tables_not_taken()),
    "other": (InvalidTable, "row", tables_not_taken()),
    "key": (InvalidKey, "key", themselves(NO_WHOLE_NUMBERS)),
    "total": (InvalidKey, "key", themselves(NO_WHOLE_NUMBERS)),
    "place": (UnknownPlace, "place", themselves(no_places(2, 3))),
    "end": (UnknownPlace, "place", themselves([*places_in([[0] * 3] * 2), (2, 3), (-1, 0), [2, 0], *NO_WHOLE_NUMBERS])),
    "rows": (InvalidNumber, "number", themselves([0, 9, -1, *NO_WHOLE_NUMBERS])),
    "columns": (InvalidNumber, "number", themselves([0, 9, -1, *NO_WHOLE_NUMBERS])),
    "found": (InvalidNumber, "number", themselves([65, -1, *NO_WHOLE_NUMBERS])),
    "value": (InvalidNumber, "number", themselves(NO_WHOLE_NUMBERS)),
    "values": (InvalidValues, "index", [(None, thing) for thing in NO_LISTS_OF_VALUES] + WRONG_VALUES),
    "text": (InvalidText, "line", [(None, thing) for thing in NO_TEXTS] + WRONG_TEXTS),
}


def callables():
    """Each function and method that takes arguments, with the names of these."""
    for module, functions in INTERFACE.items():
        for name, parameters in functions.items():
            yield getattr(module, name), parameters
    yield kinds.Seeker, ["table", "key"]
    yield kinds.Seeker(RIGHT["table"], 3).change, ["place", "value"]


class AllErrorsTest(WrongTest):
    def test_right_arguments_are_taken(self):
        for function, parameters in callables():
            function(*[RIGHT[parameter] for parameter in parameters])

    def test_each_argument_wrong_alone(self):
        for function, parameters in callables():
            for number, parameter in enumerate(parameters):
                error, field, things = NOT_TAKEN[parameter]
                for held, thing in things:
                    given = [RIGHT[name] for name in parameters]
                    given[number] = thing
                    self.assert_raised(error, field, held, function, *given)

    def test_several_arguments_wrong_at_once(self):
        """The first parameter with something wrong is told, whatever the later ones are."""
        for function, parameters in callables():
            for wrong in product((False, True), repeat=len(parameters)):
                if sum(wrong) < 2:
                    continue
                for turn_of in range(0, 60, 7):
                    given, told = [], None
                    for parameter, is_wrong in zip(parameters, wrong):
                        error, field, things = NOT_TAKEN[parameter]
                        held, thing = things[turn_of % len(things)]
                        given.append(thing if is_wrong else RIGHT[parameter])
                        if is_wrong and told is None:
                            told = error, field, held
                    self.assert_raised(*told, function, *given)


class NumbersPassedInAgainTest(unittest.TestCase):
    """Point [3]: numbers that the program returned are taken as any others."""

    def numbers(self):
        yield from (counts.count_found(8, 8, (0, 7)), counts.found_in_all(8, 8), counts.count_rising(8, 8))
        yield from (counts.count_ends(8, 8, (0, -1)), -counts.count_ends(8, 8, (8, 7)))
        yield counts.count_behaviours(8, 8, 30)
        yield alike.parting_key([[BIG]], [[BIG], [BIG]])
        yield changes.changed([[BIG, BIG]], (0, 0))[0][1]
        yield changes.changed([[-BIG], [-BIG]], (1, 0))[0][0]

    def test_some_have_ninety_digits(self):
        digits = [len(str(abs(number))) for number in self.numbers()]
        self.assertEqual((digits.count(90), max(digits)), (3, 91))

    def test_as_key_value_and_total(self):
        for number in self.numbers():
            table = [[number - 2, number], [number + 1, number + 5]]
            self.assertEqual((search.end(table, number), search.end_from_below(table, number + 1)), ((0, 1), (1, 0)))
            self.assertIs(search.all_found(table), True)
            self.assertEqual(bounds.levels(table), table)
            self.assertEqual(bounds.bounds(table, (1, 0)), (number - 2, number + 5))
            self.assertEqual(len(set(bounds.ends_of_gaps(table))), 4)
            self.assertEqual(alike.parting_key(table, [[number - 2, number], [number + 1, number + 3]]), number + 3)
            self.assertEqual(changes.fewest_changes([[number], [number]], (1, 0)), 1)
            self.assertEqual(changes.changed([[number], [number]], (1, 0)), [[number - 1], [number]])
            self.assertEqual(sums.pair_end([number, 1, number], 2 * number), (0, 2))
            self.assertIs(sums.all_pairs_found([number, number + 1, number + 3]), True)
            self.assertEqual(text.parse_table(text.format_table(table)), table)
            seeker = kinds.Seeker(table, number - 2)
            self.assertEqual((seeker.step(), seeker.step(), seeker.found), ((0, 0), (0, 0), True))
            self.assertEqual(seeker.change((0, 0), -number), number - 2)


class PartsTest(unittest.TestCase):
    def ended(self, table, key):
        """A seeker that has ended."""
        seeker = kinds.Seeker(table, key)
        while not seeker.ended:
            seeker.step()
        return seeker

    def test_a_seeker_goes_as_the_search_does(self):
        for table in all_tables():
            for key in keys_around(table)[::4]:
                seeker = self.ended(table, key)
                self.assertEqual((seeker.looked, seeker.spot), (search.path(table, key), search.end(table, key)))
                self.assertEqual(seeker.found, seeker.spot in search.found_places(table))

    def test_seekers_go_the_same_way_in_the_levels(self):
        for table in all_tables()[::2]:
            other = bounds.levels(table)
            for key in keys_around(table)[::4]:
                seeker, same = self.ended(table, key), self.ended(other, key)
                self.assertEqual((seeker.looked, seeker.spot, seeker.found), (same.looked, same.spot, same.found))

    def test_seekers_in_tables_alike(self):
        for table in all_tables()[::2]:
            for other in (bounds.levels(table), turn(table)):
                key = alike.parting_key(table, other)
                self.assertIs(alike.are_alike(table, other), key is None)
                if key is not None:
                    self.assertNotEqual(self.ended(table, key).spot, self.ended(other, key).spot)
                for lesser in keys_around(table)[::3]:
                    if key is None or lesser < key:
                        self.assertEqual(self.ended(table, lesser).spot, self.ended(other, lesser).spot)

    def test_no_change_is_needed_where_a_seeker_finds(self):
        for table in all_tables()[::3]:
            for row, column in places_in(table):
                seeker = self.ended(table, table[row][column])
                found = seeker.spot == (row, column)
                self.assertIs(found, search.is_found(table, (row, column)))
                self.assertIs(found, changes.fewest_changes(table, (row, column)) == 0)

    def test_tables_of_all_parts_as_texts(self):
        for table in all_tables():
            seeker = self.ended(table, 3)
            for told in (table, seeker.rows, bounds.levels(table), changes.changed(table, (len(table) - 1, 0))):
                written = text.format_table(told)
                self.assertEqual(text.parse_table(written), told)
                self.assertEqual(text.format_table(text.parse_table(written)), written)
                self.assertIs(alike.are_alike(text.parse_table(written), told), True)

    def test_a_seeker_of_a_text(self):
        seeker = self.ended(text.parse_table("1 5 4\n2 3 9"), 3)
        self.assertEqual(seeker.spot, (2, 0))
        self.assertEqual(text.format_table(seeker.rows), "1 5 4\n2 3 9")

    def test_sums_and_seekers(self):
        """Point [22]: a seeker in the table of sums looks at the pairs first."""
        for values in all_lists()[::3]:
            if len(values) > 8:
                continue
            table = [[low + high for high in values] for low in values]
            for total in values_of(table):
                looked, last = sum_steps(values, total)
                seeker = self.ended(table, total)
                self.assertEqual(seeker.looked[:len(looked)], looked, (values, total))
                self.assertEqual(sums.pair_path(values, total), looked)
                if last[0] < last[1]:
                    self.assertEqual((seeker.spot, seeker.found, sums.pair_end(values, total)), (last, True, last))

    def test_numbers_of_found_things(self):
        for table in all_tables():
            self.assertIs(search.all_found(table), len(search.found_places(table)) == len(places_in(table)))
            self.assertEqual(len(values_of(bounds.levels(table))), len(search.found_places(table)))
        for values in all_lists():
            self.assertIs(sums.all_pairs_found(values), sums.found_pairs(values) == pairs_in(values))

    def test_the_longest_of_everything(self):
        table = shaped([BIG - 3 * number for number in range(64)], 8)
        self.assertEqual(text.parse_table(text.format_table(table)), table)
        self.assertLess(len(text.format_table(table)), 2000)
        self.assertEqual(self.ended(table, BIG - 64 * 3).looked, search.path(table, BIG - 64 * 3))
