"""Point [26]: tables as texts."""

import re
import unittest

from halftables.errors import InvalidText
from halftables.text import format_table, parse_table
from reference import BIG, all_sizes, all_tables, drawn, shaped, small_tables

NUMBER = re.compile("0|-?[1-9][0-9]*")
SIGNS = "0123456789-+ \n.,_ax~!"
WORDS = ["0", "-0", "7", "-7", "07", "-", "", "x", "1-", "--1", "+1", "10", "1_0", "0x1", "None", str(BIG)]
LINES = ["", " ", "0", "1 2", "-1 0 5", "x", "1 2 3 4 5 6 7 8", "1 2 3 4 5 6 7 8 9", "1  2", "1 ", " 1"]
NINETY = 10 ** 89 + 7


def read(text):
    """The table of a text, or the wrong line, by the words of [26] and of the interface."""
    lines = [""]
    for sign in text:
        if sign == "\n":
            lines.append("")
        else:
            lines[-1] += sign
    if len(lines) > 8:
        return "refused", None
    table = []
    for number, line in enumerate(lines):
        words = re.findall("[^ ]+", line)
        written = " ".join(words) == line and all(NUMBER.fullmatch(word) for word in words)
        if not written or not 1 <= len(words) <= 8 or table and len(words) != len(table[0]):
            return "refused", number
        table.append([int(word) for word in words])
    return "read", table


def told(text):
    """What the program returns or refuses, as read tells it."""
    try:
        return "read", parse_table(text)
    except InvalidText as wrong:
        return "refused", wrong.line


def exchanged(parts, number):
    """The parts with one exchanged with the next one."""
    return parts[:number] + parts[number + 1:number + 2] + parts[number:number + 1] + parts[number + 2:]


def bent(parts, others):
    """The parts with one put in, left out, replaced, exchanged with the next one, or doubled."""
    for number in range(len(parts) + 1):
        for other in others:
            yield parts[:number] + [other] + parts[number:]
            yield parts[:number] + [other] + parts[number + 1:]
    for number in range(len(parts)):
        yield parts[:number] + parts[number + 1:]
        yield parts[:number] + parts[number:number + 1] * 2 + parts[number + 1:]
        yield exchanged(parts, number)


def bent_texts(text):
    for signs in bent(list(text), list(SIGNS)):
        yield "".join(signs)
    lines = text.split("\n")
    for others in bent(lines, LINES):
        yield "\n".join(others)
    for number, line in enumerate(lines):
        for words in bent(line.split(" "), WORDS):
            yield "\n".join(lines[:number] + [" ".join(words)] + lines[number + 1:])


class FormatTest(unittest.TestCase):
    def test_ordinary_tables(self):
        self.assertEqual(format_table([[1, 5, 4], [2, 3, 9]]), "1 5 4\n2 3 9")
        self.assertEqual(format_table([[7]]), "7")
        self.assertEqual(format_table([[0]]), "0")
        self.assertEqual(format_table([[-7, 0, 70]]), "-7 0 70")
        self.assertEqual(format_table([[-1], [10], [0]]), "-1\n10\n0")

    def test_eight_rows_and_eight_columns(self):
        self.assertEqual(format_table([[0] * 8] * 8), "\n".join(["0 0 0 0 0 0 0 0"] * 8))
        self.assertEqual(format_table([[1, 2, 3, 4, 5, 6, 7, 8]]), "1 2 3 4 5 6 7 8")
        self.assertEqual(format_table([[1], [2], [3], [4], [5], [6], [7], [8]]), "1\n2\n3\n4\n5\n6\n7\n8")

    def test_many_digits(self):
        self.assertEqual(format_table([[BIG, -BIG]]), "99999999999999999999 -99999999999999999999")
        self.assertEqual(format_table([[NINETY], [-NINETY]]), f"1{'0' * 88}7\n-1{'0' * 88}7")

    def test_words_of_the_document(self):
        for table in [*small_tables(), *all_tables()]:
            text = format_table(table)
            self.assertEqual(text.count("\n"), len(table) - 1)
            self.assertEqual(read(text), ("read", table))


class ParseTest(unittest.TestCase):
    def test_ordinary_texts(self):
        self.assertEqual(parse_table("1 5 4\n2 3 9"), [[1, 5, 4], [2, 3, 9]])
        self.assertEqual(parse_table("0"), [[0]])
        self.assertEqual(parse_table("-7 0 70"), [[-7, 0, 70]])
        self.assertEqual(parse_table("-1\n10\n0"), [[-1], [10], [0]])

    def test_eight_lines_and_eight_values(self):
        self.assertEqual(parse_table("\n".join(["1 2 3 4 5 6 7 8"] * 8)), [[1, 2, 3, 4, 5, 6, 7, 8]] * 8)
        self.assertEqual(parse_table("1\n2\n3\n4\n5\n6\n7\n8"), [[1], [2], [3], [4], [5], [6], [7], [8]])

    def test_many_digits(self):
        self.assertEqual(parse_table("99999999999999999999 -99999999999999999999"), [[BIG, -BIG]])
        self.assertEqual(parse_table(f"1{'0' * 88}7\n-1{'0' * 88}7"), [[NINETY], [-NINETY]])

    def test_each_row_is_a_list_of_its_own(self):
        table = parse_table("1 2\n1 2\n1 2")
        table[0][0] = 9
        self.assertEqual(table, [[9, 2], [1, 2], [1, 2]])
        self.assertEqual(parse_table("1 2\n1 2\n1 2"), [[1, 2], [1, 2], [1, 2]])

    def test_lines_that_are_refused(self):
        for text, line in [("", 0), ("1\n", 1), ("\n1", 0), ("1\n\n2", 1), ("1 2\n3", 1), ("1\n" * 8, None)]:
            self.assertEqual(told(text), ("refused", line), text)

    def test_too_many_lines_come_before_a_wrong_line(self):
        self.assertEqual(told("x\n" * 7 + "y"), ("refused", 0))
        self.assertEqual(told("x\n" * 8 + "y"), ("refused", None))
        self.assertEqual(told("\n" * 7), ("refused", 0))
        self.assertEqual(told("\n" * 8), ("refused", None))
        self.assertEqual(told("1\n" * 7), ("refused", 7))


class BackTest(unittest.TestCase):
    def test_written_and_read_back(self):
        for table in [*small_tables(), *all_tables()]:
            self.assertEqual(parse_table(format_table(table)), table)

    def test_all_sizes(self):
        for rows, columns in all_sizes():
            for scale in (1, 1000, BIG // 2 ** 31):
                values = [scale * (number - 2 ** 30) for number in drawn(rows * columns, rows + 9 * columns)]
                table = shaped(values, columns)
                self.assertEqual(parse_table(format_table(table)), table)

    def test_ninety_digits(self):
        table = shaped([NINETY * number * (-1) ** number for number in range(64)], 8)
        self.assertEqual(parse_table(format_table(table)), table)

    def test_read_and_written_again(self):
        for text in ["0", "-1", "1 2\n3 4", "10 -20 30", "5\n6\n7", "0 0\n0 0", "-99999999999999999999 1\n0 -10"]:
            self.assertEqual(format_table(parse_table(text)), text)


class BentTest(unittest.TestCase):
    def assert_told(self, text):
        kind, thing = told(text)
        self.assertEqual((kind, thing), read(text), text)
        if kind == "read":
            self.assertEqual(format_table(thing), text)

    def test_bent_texts(self):
        for table in [
            [[0]], [[-7]], [[10, 0]], [[3], [-4]], [[1, -5], [0, 7]], [[1, 5, 4], [2, 3, 9]],
            [[0, -1], [-10, 105], [7, 0]], [[1, 2, 3, 4, 5, 6, 7, 8]], [[1], [2], [3], [4], [5], [6], [7], [8]],
            [[BIG, -BIG], [0, 1 - BIG]],
        ]:
            for text in bent_texts(format_table(table)):
                self.assert_told(text)

    def test_texts_bent_twice(self):
        for table in ([[0]], [[-7, 1]], [[1], [-5]], [[1, 0], [20, -3]]):
            for number, text in enumerate(bent_texts(format_table(table))):
                for other in [*bent_texts(text)][number % 41::41]:
                    self.assert_told(other)

    def test_long_tables_bent(self):
        for seed, table in enumerate(all_tables()[::5]):
            for text in [*bent_texts(format_table(table))][seed % 17::31]:
                if len(text) <= 2000:
                    self.assert_told(text)

    def test_texts_of_a_few_signs(self):
        texts = [""]
        for _ in range(5):
            texts = [text + sign for text in texts for sign in ("0", "1", "-", " ", "\n", "x")]
            for text in texts:
                self.assert_told(text)
        self.assertEqual(len(texts), 6 ** 5)

    def test_every_sign(self):
        shapes = ["{}", "{}1", "1{}", "1{}2", "1 {}", "{} 1", "1 {} 2", "1\n{}", "{}\n1", "-{}", "1\n{}\n2", "0{}"]
        for code in [10, *range(32, 127)]:
            for shape in shapes:
                self.assert_told(shape.format(chr(code)))
