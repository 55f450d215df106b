"""Tables and lists for the tests, and the steps of DOC.md written down a second time."""

from fractions import Fraction
from itertools import combinations, permutations, product

BIG = 10 ** 20 - 1


def steps(table, key):
    """The path and the end of the search, by the words of [5]."""
    row, column = 0, len(table[0]) - 1
    looked = []
    while True:
        if row == len(table):
            return looked, (len(table), column)
        if column == -1:
            return looked, (row, -1)
        looked.append((row, column))
        if table[row][column] < key:
            row, column = row + 1, column
        elif table[row][column] > key:
            row, column = row, column - 1
        else:
            return looked, (row, column)


def steps_from_below(table, key):
    """The path and the end of the search from below, by the words of [6]."""
    row, column = len(table) - 1, 0
    looked = []
    while True:
        if row == -1:
            return looked, (-1, column)
        if column == len(table[0]):
            return looked, (row, len(table[0]))
        looked.append((row, column))
        if table[row][column] < key:
            row, column = row, column + 1
        elif table[row][column] > key:
            row, column = row - 1, column
        else:
            return looked, (row, column)


def sum_steps(values, total):
    """The pairs at which the search for a sum looks, and the two places at which it ends, by the words of [17]."""
    first, second = 0, len(values) - 1
    looked = []
    while True:
        if first == second:
            return looked, (first, second)
        looked.append((first, second))
        if values[first] + values[second] == total:
            return looked, (first, second)
        if values[first] + values[second] < total:
            first, second = first + 1, second
        else:
            first, second = first, second - 1


def levels_of(table):
    """The levels by the words of [18]."""
    last = len(table[0]) - 1
    levels = [list(row) for row in table]
    for row in range(len(table)):
        for column in range(last, -1, -1):
            value = table[row][column]
            if row == 0 and column < last:
                levels[row][column] = min(value, levels[row][column + 1])
            elif row > 0 and column == last:
                levels[row][column] = max(value, levels[row - 1][column])
            elif row > 0:
                levels[row][column] = sorted([value, levels[row - 1][column], levels[row][column + 1]])[1]
    return levels


def places_of(rows, columns):
    return [(row, column) for row in range(rows) for column in range(columns)]


def places_in(table):
    return places_of(len(table), len(table[0]))


def ends_outside(rows, columns):
    """The ends outside in the order of [7]."""
    return [(row, -1) for row in range(rows)] + [(rows, column) for column in range(columns)]


def values_of(table):
    return sorted({value for row in table for value in row})


def keys_around(table):
    """The values of a table and a key of each of its gaps, where a whole one lies in it."""
    keys = set()
    for value in values_of(table):
        keys.update((value - 1, value, value + 1))
    return sorted(keys | {0, -BIG, BIG, values_of(table)[0] - 10 ** 6, values_of(table)[-1] + 10 ** 6})


def keys_of_gaps(table):
    """A key of each gap, from the least gap to the greatest; some are not whole."""
    values = values_of(table)
    between = [Fraction(low + high, 2) for low, high in zip(values, values[1:])]
    return [values[0] - 1, *between, values[-1] + Fraction(1, 2)]


def keys_of_all_kinds(table):
    """The values of a table and a key of each of its gaps: all ways that keys can go."""
    return sorted(values_of(table) + keys_of_gaps(table))


def turn(table):
    return [[row[column] for row in table] for column in range(len(table[0]))]


def shaped(values, columns):
    """The table with these values, row by row."""
    return [list(values[start:start + columns]) for start in range(0, len(values), columns)]


def orders(rows, columns):
    """All tables of the numbers 0, 2, 4, ..: the odd keys lie in their gaps."""
    for order in permutations(range(0, 2 * rows * columns, 2)):
        yield shaped(order, columns)


def small_tables():
    """All tables of a few numbers up to 6 places, and all orders of different values at 6 places."""
    for rows, columns in sizes(6):
        numbers = (-1, 0, 1, 3) if rows * columns < 6 else (0, 1, 2)
        for values in product(numbers, repeat=rows * columns):
            yield shaped(values, columns)
    yield from orders(2, 3)
    yield from orders(3, 2)


def pairs_in(values):
    return list(combinations(range(len(values)), 2))


def sums_of(values):
    """The different sums of the pairs of a list, ascending."""
    return sorted({values[first] + values[second] for first, second in pairs_in(values)})


def totals_around(values):
    """The sums of a list and whole numbers near them."""
    totals = {0, -2 * BIG, 2 * BIG}
    for both in sums_of(values):
        totals.update(range(both - 2, both + 3))
    return sorted(totals)


def small_lists():
    """All lists of a few numbers with up to 5 values, and all orders of some different values."""
    for length in (2, 3, 4, 5):
        for values in product((-1, 0, 1, 3) if length < 5 else (0, 1, 2), repeat=length):
            yield list(values)
    for some in ((0, 1, 2, 3, 4), (1, 2, 4, 8, 16), (-7, -2, 0, 3), (0, 1, 5, 6, 7, 9)):
        for values in permutations(some):
            yield list(values)


def long_lists():
    """Lists of up to 30 values in several orders, with equal values and without."""
    for length in (2, 3, 5, 8, 13, 29, 30):
        yield list(range(length))
        yield list(range(length, 0, -1))
        yield [0] * length
        yield [2 ** number for number in range(length)]
        yield [-(2 ** number) for number in range(length)]
        yield [number // 3 for number in range(length)]
        for seed in range(4):
            yield [number % (3 + 9 * seed) - 2 for number in drawn(length, seed)]
            yield sorted(number % (6 + 40 * seed) for number in drawn(length, seed))
        yield shuffled([2 ** number for number in range(length)], 1)
        yield shuffled([BIG - 7 * number for number in range(length)], 2)
        yield shuffled([5 * number - BIG for number in range(length)], 3)
        yield shuffled([(-1) ** number * (BIG - number) for number in range(length)], 4)


def all_lists():
    return [*small_lists(), *long_lists()]


def sizes(most):
    """All sizes of tables with at most so many places."""
    return [(rows, columns) for rows, columns in places_of(9, 9) if rows and columns and rows * columns <= most]


def all_sizes():
    return sizes(64)


def drawn(count, seed):
    """So many numbers that look disordered and are the same in each run."""
    numbers = []
    state = seed
    for _ in range(count):
        state = (state * 6364136223846793005 + 1442695040888963407) % 2 ** 64
        numbers.append(state >> 33)
    return numbers


def shuffled(things, seed):
    marks = drawn(len(things), seed)
    return [things[place] for place in sorted(range(len(things)), key=lambda place: (marks[place], place))]


SOME_SIZES = [
    (1, 1), (1, 2), (2, 1), (1, 8), (8, 1), (2, 2), (2, 3), (3, 2), (3, 3), (2, 7), (5, 4), (6, 8), (8, 5), (8, 8),
]


def different_tables():
    """Tables not in order without equal values."""
    for rows, columns in SOME_SIZES:
        for seed in range(6):
            yield shaped(shuffled(list(range(-4, 2 * rows * columns - 4, 2)), seed), columns)
        yield shaped(shuffled([BIG - 3 * step for step in range(rows * columns)], 7), columns)
        yield shaped(shuffled([5 * step - BIG for step in range(rows * columns)], 8), columns)


def equal_tables():
    """Tables with equal values among theirs, where there are two places."""
    for rows, columns in SOME_SIZES:
        for seed in range(6):
            most = 2 + seed * rows * columns // 5
            yield shaped([number % most - 1 for number in drawn(rows * columns, seed)], columns)
        yield [[3] * columns for _ in range(rows)]
        yield [[row + column for column in range(columns)] for row in range(rows)]


def rising_rows(rows, columns, seed):
    """A table without equal values whose rows rise, but not its columns."""
    return [sorted(row) for row in shaped(shuffled(list(range(rows * columns)), seed), columns)]


def tables_in_order():
    """Tables whose rows and columns rise, without equal values."""
    for rows, columns in SOME_SIZES:
        yield shaped(list(range(rows * columns)), columns)
        yield turn(shaped(list(range(-5, rows * columns - 5)), rows))
        yield [[10 ** (row + column) * 9 + row for column in range(columns)] for row in range(rows)]


def all_tables():
    return [*different_tables(), *equal_tables(), *tables_in_order()]
