"""Points [5], [16] and [25]: seekers."""

import unittest
from copy import deepcopy

from halftables.bounds import bounds
from halftables.changes import changed, fewest_changes
from halftables.errors import Ended, InvalidKey, InvalidNumber, InvalidTable, NothingToUndo, UnknownPlace
from halftables.kinds import Seeker
from halftables.search import end, found_places, missed_keys, path
from reference import BIG, all_tables, drawn, keys_around, places_in, shaped, small_tables, steps
from wrong import NO_WHOLE_NUMBERS, WrongTest, no_places

TABLE = [[1, 5, 4], [2, 3, 9]]
NINETY = 10 ** 89 + 7


def seen(seeker):
    """All that a seeker tells."""
    return seeker.rows, seeker.spot, seeker.looked, seeker.ended, seeker.found


def gone(seeker):
    """The seeker, after all its steps."""
    while not seeker.ended:
        seeker.step()
    return seeker


class Model:
    """What a seeker should tell, kept whole after each step and change."""

    def __init__(self, table, key):
        self.key = key
        self.kept = [([list(row) for row in table], (0, len(table[0]) - 1), [], False, False)]

    def told(self):
        return self.kept[-1]

    def step(self):
        rows, (row, column), looked, ended, _ = self.told()
        if ended:
            return "Ended"
        value = rows[row][column]
        if value == self.key:
            spot, ended, found = (row, column), True, True
        else:
            spot = (row + 1, column) if value < self.key else (row, column - 1)
            ended, found = spot not in places_in(rows), False
        self.kept.append((rows, spot, looked + [(row, column)], ended, found))
        return spot

    def change(self, place, value):
        rows, *others = self.told()
        row, column = place
        new = [list(line) for line in rows]
        new[row][column] = value
        self.kept.append((new, *others))
        return rows[row][column]

    def undo(self):
        if len(self.kept) == 1:
            return "NothingToUndo"
        self.kept.pop()
        return None


def called(seeker, name, *given):
    """What a method returns, or the name of what it raises."""
    try:
        return getattr(seeker, name)(*given)
    except (Ended, NothingToUndo) as wrong:
        return type(wrong).__name__


class StepTest(unittest.TestCase):
    def test_a_new_seeker(self):
        seeker = Seeker(TABLE, 3)
        self.assertEqual(seen(seeker), (TABLE, (0, 2), [], False, False))
        seeker = Seeker([[7]], 7)
        self.assertEqual(seen(seeker), ([[7]], (0, 0), [], False, False))

    def test_a_key_that_is_found(self):
        seeker = Seeker(TABLE, 2)
        self.assertEqual([seeker.step() for _ in range(3)], [(0, 1), (0, 0), (1, 0)])
        self.assertEqual(seen(seeker), (TABLE, (1, 0), [(0, 2), (0, 1), (0, 0)], False, False))
        self.assertEqual(seeker.step(), (1, 0))
        self.assertEqual(seen(seeker), (TABLE, (1, 0), [(0, 2), (0, 1), (0, 0), (1, 0)], True, True))

    def test_ends_outside(self):
        for key, spot in [(-8, (0, -1)), (15, (1, -1)), (30, (2, 0)), (50, (2, 1)), (91, (2, 2))]:
            seeker = gone(Seeker([[10, 50, 40], [20, 30, 90]], key))
            self.assertEqual((seeker.spot, seeker.ended, seeker.found), (spot, True, False))

    def test_one_place(self):
        for key, spot in [(6, (0, -1)), (7, (0, 0)), (8, (1, 0))]:
            seeker = Seeker([[7]], key)
            self.assertEqual(seeker.step(), spot)
            self.assertEqual(seen(seeker), ([[7]], spot, [(0, 0)], True, key == 7))

    def test_no_step_after_the_end(self):
        for key in (1, 3, 4, 10, -8):
            seeker = gone(Seeker(TABLE, key))
            before = seen(seeker)
            for _ in range(3):
                with self.assertRaises(Ended):
                    seeker.step()
                self.assertEqual(seen(seeker), before)

    def test_eight_rows_and_eight_columns(self):
        table = [[8 * column + row for column in range(8)] for row in range(8)]
        seeker = gone(Seeker(table, 0))
        self.assertEqual((seeker.spot, seeker.looked), ((0, 0), [(0, column) for column in range(7, -1, -1)]))
        seeker = gone(Seeker([[0] * 8 for _ in range(8)], 1))
        self.assertEqual((seeker.spot, seeker.looked), ((8, 7), [(row, 7) for row in range(8)]))
        self.assertEqual(len(gone(Seeker([[row + column for column in range(8)] for row in range(8)], 6)).looked), 2)

    def test_numbers_of_many_digits(self):
        for great in (BIG, NINETY):
            table = [[-great, great - 1], [1 - great, great]]
            for key in (great, great - 1, great - 2, 1 - great, -great, -great - 1, 0):
                seeker = gone(Seeker(table, key))
                self.assertEqual((seeker.looked, seeker.spot), steps(table, key))

    def test_the_search_of_the_document(self):
        for table in [*list(small_tables())[::11], *all_tables()]:
            for key in keys_around(table)[::3]:
                seeker = Seeker(table, key)
                looked, last = steps(table, key)
                for number, place in enumerate(looked):
                    told = (table, place, looked[:number], False, False)
                    self.assertEqual(seen(seeker), told, (table, key))
                    self.assertEqual(seeker.step(), [*looked, last][number + 1] if number + 1 < len(looked) else last)
                self.assertEqual(seen(seeker), (table, last, looked, True, last in looked), (table, key))
                self.assertEqual((seeker.looked, seeker.spot), (path(table, key), end(table, key)))

    def test_found_places_and_missed_keys(self):
        for table in all_tables():
            for row, column in found_places(table):
                seeker = gone(Seeker(table, table[row][column]))
                self.assertEqual((seeker.spot, seeker.found), ((row, column), True))
            for key in missed_keys(table):
                self.assertIs(gone(Seeker(table, key)).found, False)


class ChangeTest(unittest.TestCase):
    def test_returns_the_old_value(self):
        seeker = Seeker(TABLE, 3)
        self.assertEqual([seeker.change((1, 1), value) for value in (7, -4, -4, BIG, NINETY, 0)], [
            3, 7, -4, -4, BIG, NINETY,
        ])
        self.assertEqual(seen(seeker), ([[1, 5, 4], [2, 0, 9]], (0, 2), [], False, False))

    def test_a_place_to_come(self):
        seeker = Seeker(TABLE, 3)
        seeker.change((0, 2), 2)
        self.assertEqual(seeker.spot, (0, 2))
        self.assertEqual([seeker.step(), seeker.step(), seeker.step()], [(1, 2), (1, 1), (1, 1)])
        self.assertEqual(seen(seeker), ([[1, 5, 2], [2, 3, 9]], (1, 1), [(0, 2), (1, 2), (1, 1)], True, True))

    def test_the_place_at_which_it_stands(self):
        seeker = Seeker(TABLE, 3)
        seeker.step()
        self.assertEqual(seeker.change((0, 1), 3), 5)
        self.assertEqual((seeker.spot, seeker.looked, seeker.ended), ((0, 1), [(0, 2)], False))
        self.assertEqual((seeker.step(), seeker.ended, seeker.found), ((0, 1), True, True))

    def test_a_place_at_which_it_has_looked(self):
        seeker = Seeker(TABLE, 3)
        seeker.step()
        seeker.change((0, 2), 3)
        self.assertEqual(seen(seeker), ([[1, 5, 3], [2, 3, 9]], (0, 1), [(0, 2)], False, False))
        self.assertEqual([seeker.step(), seeker.step(), seeker.step()], [(0, 0), (1, 0), (2, 0)])
        self.assertIs(seeker.found, False)

    def test_after_the_end(self):
        for key in (2, 3, -8, 10):
            seeker = gone(Seeker(TABLE, key))
            _, *others = seen(seeker)
            table = [list(row) for row in TABLE]
            for row, column in places_in(TABLE):
                for value in (key, key + 1, key - 1):
                    self.assertEqual(seeker.change((row, column), value), table[row][column])
                    table[row][column] = value
                    self.assertEqual(seen(seeker), (table, *others))
                    with self.assertRaises(Ended):
                        seeker.step()

    def test_only_one_place_is_changed(self):
        for table in all_tables()[::5]:
            seeker = Seeker(table, 0)
            for row, column in places_in(table):
                self.assertEqual(seeker.change((row, column), BIG), table[row][column])
                other = [list(line) for line in table]
                other[row][column] = BIG
                self.assertEqual(seeker.rows, other)
                seeker.undo()
                self.assertEqual(seeker.rows, table)

    def test_fewest_changes(self):
        """Point [16]: as many changes as are needed, and the place is found."""
        for table in [*list(small_tables())[::23], *all_tables()]:
            for row, column in places_in(table)[::3]:
                seeker = Seeker(table, table[row][column])
                other = changed(table, (row, column))
                for at, beside in places_in(table):
                    if other[at][beside] != table[at][beside]:
                        seeker.change((at, beside), other[at][beside])
                gone(seeker)
                self.assertEqual((seeker.spot, seeker.found, seeker.rows), ((row, column), True, other))
                for _ in range(len(seeker.looked) + fewest_changes(table, (row, column))):
                    seeker.undo()
                self.assertEqual(seen(seeker), (table, (0, len(table[0]) - 1), [], False, False))
                self.assertEqual(called(seeker, "undo"), "NothingToUndo")

    def test_changes_that_leave_the_way(self):
        """Points [13] and [23]: keys within the bounds look at a place, whatever its value."""
        table = [[8, 2, 9, 4], [1, 7, 3, 6], [5, 0, 4, 2]]
        for place in places_in(table):
            for key in range(-1, 11):
                told = bounds(table, place)
                seeker = Seeker(table, key)
                seeker.change(place, key)
                gone(seeker)
                if told is None:
                    self.assertNotIn(place, seeker.looked)
                elif key not in [value for row in table for value in row]:
                    low, high = told
                    within = (low is None or key > low) and (high is None or key < high)
                    self.assertEqual((seeker.found, seeker.spot == place), (within, within), (place, key))


class UndoTest(unittest.TestCase):
    def test_nothing_to_undo(self):
        seeker = Seeker(TABLE, 3)
        for _ in range(3):
            with self.assertRaises(NothingToUndo):
                seeker.undo()
            self.assertEqual(seen(seeker), (TABLE, (0, 2), [], False, False))

    def test_steps(self):
        for key in (2, 3, 4, -8, 10):
            seeker = Seeker(TABLE, key)
            told = [seen(seeker)]
            while not seeker.ended:
                seeker.step()
                told.append(seen(seeker))
            while len(told) > 1:
                self.assertEqual(seen(seeker), told.pop())
                self.assertIsNone(seeker.undo())
            self.assertEqual([seen(seeker)], told)
            self.assertEqual(called(seeker, "undo"), "NothingToUndo")

    def test_an_end_that_was_taken_back(self):
        seeker = gone(Seeker(TABLE, 4))
        self.assertEqual((seeker.spot, seeker.found), ((0, 2), True))
        seeker.undo()
        self.assertEqual(seen(seeker), (TABLE, (0, 2), [], False, False))
        self.assertEqual((seeker.step(), seeker.found, seeker.looked), ((0, 2), True, [(0, 2)]))
        seeker.undo()
        seeker.change((0, 2), 3)
        self.assertEqual((seeker.step(), seeker.ended), ((1, 2), False))

    def test_changes(self):
        seeker = Seeker(TABLE, 3)
        for value in (7, 7, 3, NINETY):
            seeker.change((1, 1), value)
        told = []
        for _ in range(4):
            told.append(seeker.rows[1][1])
            self.assertIsNone(seeker.undo())
        self.assertEqual((told, seeker.rows), ([NINETY, 3, 7, 7], TABLE))

    def test_a_change_to_the_same_value(self):
        seeker = Seeker(TABLE, 3)
        seeker.step()
        self.assertEqual(seeker.change((0, 0), 1), 1)
        seeker.undo()
        self.assertEqual((seeker.spot, seeker.looked), ((0, 1), [(0, 2)]))
        seeker.undo()
        self.assertEqual((seeker.spot, seeker.looked), ((0, 2), []))
        self.assertEqual(called(seeker, "undo"), "NothingToUndo")

    def test_steps_and_changes_in_turn(self):
        seeker = Seeker(TABLE, 3)
        seeker.step()
        seeker.change((0, 2), 0)
        seeker.step()
        seeker.change((0, 2), 8)
        seeker.undo()
        self.assertEqual((seeker.rows[0], seeker.spot), ([1, 5, 0], (0, 0)))
        seeker.undo()
        self.assertEqual((seeker.rows[0], seeker.spot), ([1, 5, 0], (0, 1)))
        seeker.undo()
        self.assertEqual((seeker.rows[0], seeker.spot), ([1, 5, 4], (0, 1)))
        seeker.undo()
        self.assertEqual(seen(seeker), (TABLE, (0, 2), [], False, False))

    def test_a_change_after_the_end(self):
        for key in (2, 3):
            seeker = gone(Seeker(TABLE, key))
            before = seen(seeker)
            seeker.change((1, 0), key + 5)
            seeker.undo()
            self.assertEqual(seen(seeker), before)

    def test_refused_calls_are_not_taken_back(self):
        seeker = gone(Seeker(TABLE, 4))
        for name, *given in [("step",), ("change", (9, 9), 1), ("change", (0, 0), None), ("change", None, None)]:
            with self.assertRaises((Ended, UnknownPlace, InvalidNumber)):
                getattr(seeker, name)(*given)
        seeker.undo()
        self.assertEqual(seen(seeker), (TABLE, (0, 2), [], False, False))
        self.assertEqual(called(seeker, "undo"), "NothingToUndo")


class DrawnCallsTest(unittest.TestCase):
    """Many rows of calls, compared with the model after each one."""

    def assert_same(self, seeker, model):
        self.assertEqual(seen(seeker), model.told())

    def call(self, seeker, model, number, values):
        """One of the calls, drawn by the number; more steps than changes, and some takings back."""
        places = places_in(model.told()[0])
        kind, number = number % 8, number // 8
        if kind < 4:
            told = ("step",)
        elif kind < 6:
            told = ("change", places[number % len(places)], values[number // len(places) % len(values)])
        else:
            told = ("undo",)
        self.assertEqual(called(seeker, *told), called(model, *told), told)
        self.assert_same(seeker, model)

    def refuse(self, seeker, model, number):
        wrong = [((9, 9), 1, UnknownPlace), ((0, 0), True, InvalidNumber), (seeker.spot[:1], None, UnknownPlace)]
        place, value, error = wrong[number % 3]
        with self.assertRaises(error):
            seeker.change(place, value)
        self.assert_same(seeker, model)

    def go(self, table, key, seed, count):
        seeker, model = Seeker(table, key), Model(table, key)
        before = deepcopy(table)
        values = [key, key - 1, key + 1, *table[0], -BIG]
        self.assert_same(seeker, model)
        for at, number in enumerate(drawn(count, seed)):
            self.call(seeker, model, number, values)
            if at % 9 == 8:
                self.refuse(seeker, model, at // 9)
        while len(model.kept) > 1:
            self.assertIsNone(seeker.undo())
            model.undo()
            self.assert_same(seeker, model)
        self.assertEqual(called(seeker, "undo"), "NothingToUndo")
        self.assertEqual(seen(seeker), (before, (0, len(before[0]) - 1), [], False, False))
        self.assertEqual(table, before)

    def test_small_tables(self):
        for seed, table in enumerate([*small_tables()][::17]):
            self.go(table, seed % 5 - 1, seed, 24)

    def test_all_tables(self):
        for seed, table in enumerate(all_tables()):
            keys = keys_around(table)
            for number in range(3):
                self.go(table, keys[(7 * seed + 11 * number) % len(keys)], 1000 + 3 * seed + number, 60)

    def test_long_rows_of_calls(self):
        for seed in range(6):
            self.go(shaped(drawn(12, seed), 4), drawn(12, seed)[5], 50 + seed, 600)

    def test_steps_alone_after_changes(self):
        for seed, table in enumerate(all_tables()):
            seeker = Seeker(table, 2)
            places = places_in(table)
            for number in drawn(8, seed):
                seeker.change(places[number % len(places)], number // 64 % 5)
            now = seeker.rows
            gone(seeker)
            self.assertEqual((seeker.looked, seeker.spot), steps(now, 2))
            self.assertEqual(seeker.rows, now)

    def test_thousands_of_calls(self):
        seeker = Seeker(TABLE, 3)
        for number in range(5000):
            seeker.change((number % 2, number % 3), number)
        for _ in range(5000):
            seeker.undo()
        self.assertEqual(seen(seeker), (TABLE, (0, 2), [], False, False))


class ApartTest(unittest.TestCase):
    """Point [2]: what is passed in and handed out does not hang together with the object."""

    def test_the_table_that_is_passed(self):
        table = [[1, 5, 4], [2, 3, 9]]
        rows = list(table)
        seeker = Seeker(table, 3)
        seeker.step()
        seeker.change((0, 0), 77)
        gone(seeker)
        self.assertEqual(table, TABLE)
        self.assertTrue(all(row is kept for row, kept in zip(table, rows)))

    def test_later_changes_of_the_table(self):
        table = [[1, 5, 4], [2, 3, 9]]
        seeker = Seeker(table, 3)
        table[0][1] = 3
        table[1].append(0)
        table.append([])
        self.assertEqual(seeker.rows, TABLE)
        self.assertEqual((gone(seeker).spot, seeker.looked), ((2, 0), [(0, 2), (0, 1), (0, 0), (1, 0)]))

    def test_one_list_as_several_rows(self):
        row = [4, 2, 7]
        seeker = Seeker([row, row, row], 5)
        self.assertEqual(seeker.change((1, 1), 0), 2)
        self.assertEqual((seeker.rows, row), ([[4, 2, 7], [4, 0, 7], [4, 2, 7]], [4, 2, 7]))
        seeker.undo()
        self.assertEqual(seeker.rows, [[4, 2, 7], [4, 2, 7], [4, 2, 7]])

    def test_two_seekers(self):
        table = [[1, 5, 4], [2, 3, 9]]
        one, other = Seeker(table, 3), Seeker(table, 3)
        third = Seeker(one.rows, 3)
        one.change((0, 1), 3)
        self.assertEqual((gone(one).spot, one.found), ((0, 1), True))
        for seeker in (other, third):
            self.assertEqual(seen(seeker), (TABLE, (0, 2), [], False, False))
            self.assertEqual(called(seeker, "undo"), "NothingToUndo")
        other.step()
        one.undo()
        self.assertEqual((one.looked, other.looked, third.looked), ([(0, 2)], [(0, 2)], []))

    def test_lists_that_are_handed_out(self):
        seeker = Seeker(TABLE, 3)
        seeker.step()
        before = deepcopy(seen(seeker))
        rows, looked = seeker.rows, seeker.looked
        rows[0][0] = 99
        rows[1].clear()
        rows.append([1])
        looked.append((7, 7))
        looked[0] = None
        self.assertEqual(seen(seeker), before)
        self.assertEqual(seeker.step(), (0, 0))
        self.assertEqual((rows, looked), ([[99, 5, 4], [], [1]], [None, (7, 7)]))

    def test_lists_are_new_each_time(self):
        row = [4, 2, 7]
        table = [row, row]
        seeker = gone(Seeker(table, 5))
        told = [seeker.rows, seeker.rows, seeker.looked, seeker.looked]
        lists = [part for thing in told for part in [thing, *(inner for inner in thing if isinstance(inner, list))]]
        self.assertEqual(len(lists), 8)
        self.assertEqual(len({id(part) for part in [*lists, table, row]}), 10)

    def test_earlier_lists_stay(self):
        seeker = Seeker(TABLE, 3)
        rows, looked = seeker.rows, seeker.looked
        seeker.change((0, 2), 9)
        gone(seeker)
        self.assertEqual((rows, looked), (TABLE, []))
        after = seeker.looked
        seeker.undo()
        self.assertEqual(len(after), len(seeker.looked) + 1)

    def test_reading_changes_nothing(self):
        seeker = Seeker(TABLE, 3)
        for _ in range(4):
            self.assertEqual(seen(seeker), seen(seeker))
            seeker.step()
        self.assertEqual(seen(seeker), seen(seeker))
        self.assertEqual((seeker.spot, seeker.looked), ((2, 0), [(0, 2), (0, 1), (0, 0), (1, 0)]))


class WrongSeekerTest(WrongTest):
    def seekers(self):
        """Seekers at the beginning, on the way, and after the end, with what they can take back."""
        for table in (TABLE, [[7]], [[0] * 8 for _ in range(8)]):
            yield table, 0, Seeker(table, 3)
            seeker = Seeker(table, 3)
            seeker.change((0, 0), 1)
            yield table, 1, seeker
            yield table, 1, gone(Seeker(table, table[0][-1]))

    def test_wrong_places(self):
        for table, _, seeker in self.seekers():
            before = seen(seeker)
            for thing in no_places(len(table), len(table[0])):
                for value in (1, None, True, "1"):
                    self.assert_raised(UnknownPlace, "place", thing, seeker.change, thing, value)
            self.assertEqual(seen(seeker), before)

    def test_the_end_outside_is_no_place(self):
        for key in (3, -8, 10):
            seeker = gone(Seeker(TABLE, key))
            self.assert_raised(UnknownPlace, "place", seeker.spot, seeker.change, seeker.spot, 1)

    def test_wrong_values(self):
        for _, many, seeker in self.seekers():
            before = seen(seeker)
            for thing in NO_WHOLE_NUMBERS:
                self.assert_raised(InvalidNumber, "number", thing, seeker.change, (0, 0), thing)
            self.assertEqual(seen(seeker), before)
            for _ in range(many):
                seeker.undo()
            self.assertEqual(called(seeker, "undo"), "NothingToUndo")

    def test_several_wrong_at_once(self):
        self.assert_raised(InvalidTable, "row", 1, Seeker, [[1, 2], [3, True]], "key")
        self.assert_raised(InvalidTable, "row", None, Seeker, None, None)
        self.assert_raised(InvalidKey, "key", True, Seeker, [[1, 2], [3, 4]], True)
        self.assert_raised(UnknownPlace, "place", None, Seeker(TABLE, 3).change, None, None)

    def test_errors_without_fields(self):
        seeker = gone(Seeker(TABLE, 4))
        with self.assertRaises(LookupError) as caught:
            seeker.step()
        self.assertIs(type(caught.exception), Ended)
        self.assertEqual(vars(caught.exception), {})
        seeker.undo()
        with self.assertRaises(LookupError) as caught:
            seeker.undo()
        self.assertIs(type(caught.exception), NothingToUndo)
        self.assertEqual(vars(caught.exception), {})

    def test_values_of_all_sizes_are_taken(self):
        seeker = Seeker(TABLE, 3)
        for value in (0, -1, BIG, -BIG, NINETY, -NINETY):
            seeker.change((1, 2), value)
            self.assertEqual(seeker.rows[1][2], value)
