"""Points [17], [19] and [22]: pairs and sums."""

import unittest

from halftables.search import end, path
from halftables.sums import all_pairs_found, found_pairs, pair_end, pair_path
from reference import BIG, all_lists, pairs_in, sum_steps, sums_of, totals_around

NINETY = 10 ** 89 + 7


def rises(values):
    return all(low < high for low, high in zip(values, values[1:]))


def sum_at(values, pair):
    return values[pair[0]] + values[pair[1]]


def lists():
    return [*all_lists(), *ninety_digits()]


def ninety_digits():
    yield [NINETY, -NINETY]
    yield [NINETY - 3, 5, NINETY, -NINETY, 0]
    yield [NINETY * number % (10 ** 90 - 11) - 10 ** 89 for number in range(1, 31)]


class PairsTest(unittest.TestCase):
    def test_ordinary_sums(self):
        values = [5, 1, 4, 2]
        self.assertEqual(pair_path(values, 7), [(0, 3)])
        self.assertEqual(pair_end(values, 7), (0, 3))
        self.assertEqual(pair_path(values, 6), [(0, 3), (0, 2), (0, 1)])
        self.assertEqual(pair_end(values, 6), (0, 1))
        self.assertEqual(pair_path(values, 9), [(0, 3), (1, 3), (2, 3)])
        self.assertEqual(pair_end(values, 9), (3, 3))
        self.assertEqual(pair_path(values, 5), [(0, 3), (0, 2), (0, 1)])
        self.assertEqual(pair_end(values, 5), (0, 0))
        self.assertEqual(pair_path([1, 3, 4, 6, 9], 11), [(0, 4), (1, 4), (1, 3), (2, 3)])
        self.assertEqual(pair_end([1, 3, 4, 6, 9], 11), (3, 3))

    def test_two_values(self):
        for values in ([5, 1], [1, 5], [3, 3], [-2, 8]):
            self.assertEqual(pair_path(values, 6), [(0, 1)])
            self.assertEqual(pair_end(values, 6), (0, 1))
            self.assertEqual((pair_path(values, 5), pair_end(values, 5)), ([(0, 1)], (0, 0)))
            self.assertEqual((pair_path(values, 7), pair_end(values, 7)), ([(0, 1)], (1, 1)))
            self.assertEqual(found_pairs(values), [(0, 1)])
            self.assertIs(all_pairs_found(values), True)

    def test_equal_values(self):
        self.assertEqual(pair_path([4, 4, 4], 8), [(0, 2)])
        self.assertEqual((pair_path([4, 4, 4], 9), pair_end([4, 4, 4], 9)), ([(0, 2), (1, 2)], (2, 2)))
        self.assertEqual((pair_path([4, 4, 4], 7), pair_end([4, 4, 4], 7)), ([(0, 2), (0, 1)], (0, 0)))
        self.assertEqual((found_pairs([4, 4, 4]), all_pairs_found([4, 4, 4])), ([(0, 2)], False))
        self.assertEqual(found_pairs([1, 1, 2, 2]), [(0, 1), (0, 3), (2, 3)])

    def test_thirty_values(self):
        values = list(range(30))
        self.assertEqual(pair_path(values, -1), [(0, second) for second in range(29, 0, -1)])
        self.assertEqual(pair_path(values, 99), [(first, 29) for first in range(29)])
        self.assertEqual((pair_end(values, -1), pair_end(values, 99)), ((0, 0), (29, 29)))
        outermost = sorted([(0, second) for second in range(1, 30)] + [(first, 29) for first in range(1, 29)])
        self.assertEqual((found_pairs(values), all_pairs_found(values)), (outermost, False))
        self.assertEqual(found_pairs([0] * 30), [(0, 29)])
        powers = [2 ** number for number in range(30)]
        self.assertEqual((found_pairs(powers), all_pairs_found(powers)), (pairs_in(powers), True))

    def test_below_zero_and_many_digits(self):
        self.assertEqual(pair_path([-5, -9, 2, -1], -6), [(0, 3)])
        self.assertEqual(pair_path([-5, -9, 2, -1], -14), [(0, 3), (0, 2), (0, 1)])
        self.assertEqual(pair_end([-5, -9, 2, -1], -14), (0, 1))
        self.assertEqual(pair_end([BIG - 1, 0, BIG], 2 * BIG - 1), (0, 2))
        self.assertEqual(pair_end([BIG - 1, 0, BIG], 2 * BIG), (2, 2))
        self.assertEqual(pair_end([BIG - 1, 0, BIG], BIG), (1, 1))
        self.assertEqual(pair_end([-BIG, -BIG], -2 * BIG), (0, 1))
        self.assertEqual(pair_end([NINETY, 3, NINETY + 1], NINETY + 3), (0, 1))
        self.assertEqual(pair_end([NINETY, 3, NINETY + 1], NINETY + 2), (0, 0))
        self.assertEqual(found_pairs([-NINETY, NINETY, -3]), [(0, 2), (1, 2)])

    def test_words_of_the_document(self):
        for values in lists():
            for total in totals_around(values):
                looked, last = sum_steps(values, total)
                self.assertEqual(pair_path(values, total), looked, (values, total))
                self.assertEqual(pair_end(values, total), last, (values, total))

    def test_the_same_places_where_nothing_is_found(self):
        for values in lists():
            for total in totals_around(values):
                first, second = pair_end(values, total)
                found = first < second and sum_at(values, (first, second)) == total
                self.assertTrue(found or first == second, (values, total))


class FoundPairsTest(unittest.TestCase):
    def test_found_where_the_search_ends(self):
        for values in lists():
            found = [pair for pair in pairs_in(values) if sum_steps(values, sum_at(values, pair))[1] == pair]
            self.assertEqual(found_pairs(values), found, values)
            self.assertIs(all_pairs_found(values), len(found) == len(pairs_in(values)), values)

    def test_all_pairs_found(self):
        for values in lists():
            different = len(sums_of(values)) == len(pairs_in(values))
            self.assertIs(all_pairs_found(values), len(values) == 2 or rises(values) and different, values)

    def test_one_equal_sum_spoils_it(self):
        values = [2 ** number for number in range(30)]
        values[29] = values[28] + values[27] - values[26]
        self.assertIs(all_pairs_found(sorted(values)), False)
        self.assertEqual([all_pairs_found(some) for some in ([1, 2, 4, 8], [1, 2, 4, 5], [1, 4, 2, 8])], [
            True, False, False,
        ])

    def test_one_pair_for_each_sum(self):
        for values in lists():
            told = [sum_at(values, pair) for pair in found_pairs(values)]
            self.assertEqual(len(told), len(set(told)), values)

    def test_the_outermost_pair_is_found(self):
        for values in lists():
            self.assertIn((0, len(values) - 1), found_pairs(values))

    def test_greater_sums_end_at_a_later_place(self):
        for values in lists():
            sums = sums_of(values)
            missed = [total for total in totals_around(values) if total not in sums]
            ends = [pair_end(values, total) for total in missed]
            self.assertTrue(all(first == second for first, second in ends), values)
            self.assertEqual(ends, sorted(ends), values)

    def test_greater_first_places_have_greater_sums(self):
        for values in lists():
            greatest = {}
            for first, second in found_pairs(values):
                inner = first + len(values) - 1 - second
                if inner in greatest:
                    self.assertGreater(values[first] + values[second], greatest[inner], values)
                greatest[inner] = values[first] + values[second]


class WaysOfSumsTest(unittest.TestCase):
    """Point [19]."""

    def test_one_way_more_than_found_pairs(self):
        for values in lists():
            doubled = [2 * value for value in values]
            found = found_pairs(doubled)
            told = {sum_at(doubled, pair) for pair in found}
            sums = sums_of(doubled)
            # Each gap between the sums of the doubled list has an odd number.
            missed = [sums[0] - 1] + [both + 1 for both in sums] + [both for both in sums if both not in told]
            ways = {(tuple(pair_path(doubled, total)), pair_end(doubled, total)) for total in missed}
            self.assertEqual(len(ways), len(found) + 1, values)
            self.assertEqual(found, found_pairs(values), values)


class TableOfSumsTest(unittest.TestCase):
    """Point [22]."""

    def test_the_first_places_of_the_path(self):
        for values in lists():
            if len(values) > 8:
                continue
            table = [[low + high for high in values] for low in values]
            for total in totals_around(values):
                begun = []
                for first, second in path(table, total):
                    if first >= second:
                        break
                    begun.append((first, second))
                self.assertEqual(pair_path(values, total), begun, (values, total))

    def test_found_in_the_list_is_found_in_the_table(self):
        for values in lists():
            if len(values) <= 8:
                table = [[low + high for high in values] for low in values]
                for pair in found_pairs(values):
                    self.assertEqual(end(table, sum_at(values, pair)), pair, values)

    def test_lists_that_never_fall(self):
        for values in lists():
            if values != sorted(values):
                continue
            pairs_by_sum = {}
            for pair in pairs_in(values):
                pairs_by_sum.setdefault(sum_at(values, pair), []).append(pair)
            found = found_pairs(values)
            for pairs in pairs_by_sum.values():
                told = [pair for pair in pairs if pair in found]
                self.assertEqual(len(told), 1, values)
                if rises(values):
                    self.assertEqual(told, [min(pairs)], values)
                    for (first, second), (low, high) in zip(pairs, pairs[1:]):
                        self.assertTrue(first < low < high < second, values)
