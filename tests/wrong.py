"""Things that are not what the interface asks for, and how the tests tell what is raised."""

import unittest


class Odd:
    """A thing that cannot be shown."""

    def __repr__(self):
        raise RuntimeError("not to be shown")

    __str__ = __repr__


NO_WHOLE_NUMBERS = [True, False, None, 1.0, "1", "", b"1", [1], (1,), {1: 1}, {1}, 1j, int, Odd()]
NO_TABLES = [
    None, True, 0, 7, 1.5, "", "ab", b"ab", (), ([1], [2]), {}, {0: [1]}, {1}, Odd(), range(3), [],
    [1], [1, 2], [None], ["ab"], [(1, 2)], [[1], (1,)], [[1, 2], [3, 4], None], [(1,), [True]], [[True], (1,)],
    [[1]] * 9, [[]] * 9, [[True]] * 9, [[1], range(1)], [[1], Odd()],
]
WRONG_ROWS = [
    (0, [[]]), (0, [[], []]), (0, [[], [1]]), (1, [[1], []]), (0, [[1] * 9]), (0, [[1] * 9] * 8), (1, [[1], [1] * 9]),
    (0, [[1] * 9, [1]]), (1, [[1, 2], [3]]), (1, [[1, 2], [3, 4, 5]]), (2, [[1, 2], [3, 4], [5]]),
    (7, [[1]] * 7 + [[1, 2]]),
    (1, [[1, 2], [3], [True, 4]]), (1, [[1, 2], [3, True], [4]]), (0, [[1, True], [3]]), (0, [[True], [1, 2]]),
    (2, [[1, 2], [3, 4], [5, None]]), (7, [[0] * 8] * 7 + [[0] * 7 + ["0"]]), (1, [[0] * 8, [0] * 7 + [False]]),
] + [(0, [[thing]]) for thing in NO_WHOLE_NUMBERS] + [(1, [[1, 2], [3, thing], []]) for thing in NO_WHOLE_NUMBERS]


def no_places(rows, columns):
    """Things that are no place of a table of this size."""
    beside = [(-1, 0), (0, -1), (rows, 0), (0, columns), (rows, columns), (-rows, -columns), (-1, -1), (10 ** 19, 0)]
    others = [[0, 0], (), (0,), (0, 0, 0), ((0, 0),), None, 0, True, "00", b"00", {0: 0}, {0}, range(2), Odd()]
    parts = [(thing, 0) for thing in NO_WHOLE_NUMBERS] + [(0, thing) for thing in NO_WHOLE_NUMBERS]
    return beside + others + parts


NO_LISTS_OF_VALUES = [
    None, True, 0, 7, 1.5, "", "ab", b"ab", (), (1, 2), {}, {1: 1, 2: 2}, {1, 2}, Odd(), range(3), [], [1], [True],
    [None], [[1, 2]], [0] * 31, [True] * 31, [None] * 40,
]
WRONG_VALUES = [(0, [thing, 1]) for thing in NO_WHOLE_NUMBERS] + [(1, [1, thing]) for thing in NO_WHOLE_NUMBERS] + [
    (2, [3, 4, thing, 5, thing, True]) for thing in NO_WHOLE_NUMBERS
] + [(29, [0] * 29 + [thing]) for thing in NO_WHOLE_NUMBERS] + [(0, [True] * 30), (0, [[1, 2], [3, 4]])]
NO_TEXTS = [None, True, False, 0, 7, 1.5, b"", b"1", [], ["1"], ("1",), {"1": 1}, {"1"}, [[1]], str, Odd()]
WRONG_TEXTS = [
    (None, "1\n" * 8), (None, "1\n" * 8 + "1"), (None, "\n" * 8), (None, "x\n" * 9), (None, "1 2\n3\n" * 5),
    (0, ""), (0, "\n"), (1, "1\n"), (0, "\n1"), (1, "1\n\n2"), (7, "1\n" * 7), (0, " "), (0, "\n" * 7),
    (0, "1 "), (0, " 1"), (0, "1  2"), (1, "1 2\n3  4"), (1, "1 2\n3 4 "), (1, "1 2\n 3 4"), (1, "1 2\n 4"),
    (0, "x"), (0, "-"), (0, "--1"), (0, "1-"), (0, "1-2"), (0, "- 1"), (0, "+1"), (0, "+"), (0, "1.0"), (0, "1e3"),
    (0, "1_000"), (0, "1,2"), (0, "0x1"), (0, "True"), (0, "[[1]]"), (0, "~"), (0, "!"), (0, "1 2;"), (0, "'1'"),
    (0, "-0"), (0, "00"), (0, "01"), (0, "-01"), (0, "0 00"), (0, "-00"), (1, "1\n-0"), (1, "0 0\n0 01"),
    (0, "1 2 3 4 5 6 7 8 9"), (1, "1\n1 2 3 4 5 6 7 8 9"), (0, "0" + " 0" * 8), (0, "0" + " 0" * 8 + "\n0"),
    (1, "1\n2 3"), (1, "1 2\n3"), (2, "1 2\n3 4\n5"), (2, "1 2\n3 4\n5 6 7\n8\n9"), (7, "1\n" * 7 + "1 2"),
    (1, "1 2\n3\nx y"), (1, "1 2\nx y\n3"), (0, "x 2\n3"), (1, "1 2\n3 4 x"), (3, "1\n2\n3\n\n4\n"),
]


class WrongTest(unittest.TestCase):
    def assert_raised(self, error, field, thing, function, *given):
        with self.assertRaises(error) as caught:
            function(*given)
        self.assertIs(type(caught.exception), error)
        self.assertIs(getattr(caught.exception, field), thing)
