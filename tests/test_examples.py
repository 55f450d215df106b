"""The examples of the interface, word for word, and those of README.md."""

import unittest
from doctest import DocTestParser, DocTestRunner
from pathlib import Path

from halftables.errors import InvalidText
from halftables.text import parse_table

SEARCH = """
>>> from halftables.search import all_found, end, end_from_below, found_from_below, found_places, is_found
>>> from halftables.search import missed_keys, path
>>> table = [[1, 5, 4], [2, 3, 9]]
>>> path(table, 3), end(table, 3), end(table, 7)
([(0, 2), (0, 1), (0, 0), (1, 0)], (2, 0), (2, 1))
>>> found_places(table), missed_keys(table), is_found(table, (1, 0)), all_found(table)
([(0, 0), (0, 2), (1, 0), (1, 2)], [3, 5], True, False)
>>> end_from_below(table, 3), end_from_below(table, 5), path(table, 1)
((1, 1), (0, 3), [(0, 2), (0, 1), (0, 0)])
>>> found_from_below(table)
[(0, 0), (0, 2), (1, 0), (1, 1), (1, 2)]
>>> found_places([[1, 2], [2, 3]]), missed_keys([[1, 2], [2, 3]]), all_found([[1, 2], [2, 3]])
([(0, 0), (0, 1), (1, 1)], [], False)
"""

COUNTS = """
>>> from halftables.counts import count_behaviours, count_ends, count_found, count_found_rising, count_found_twice
>>> from halftables.counts import count_rising, found_in_all
>>> count_found(2, 3, (0, 0)), count_found_twice(2, 3, (0, 0)), count_found_rising(2, 3, (1, 0)), count_rising(2, 3)
(240, 180, 10, 5)
>>> found_in_all(1, 2), found_in_all(2, 2), [count_ends(1, 2, end) for end in [(0, -1), (1, 0), (1, 1)]]
(3, 56, [2, 1, 3])
>>> [count_behaviours(2, 2, found) for found in range(6)]
[0, 1, 4, 5, 2, 0]
"""

BOUNDS = """
>>> from halftables.bounds import bounds, ends_of_gaps, levels, seen_places
>>> table = [[1, 5, 4], [2, 3, 9]]
>>> levels(table), levels([[1, 2], [9, 3]])
([[1, 4, 4], [2, 4, 9]], [[1, 2], [3, 3]])
>>> bounds(table, (0, 2)), bounds(table, (1, 0)), bounds(table, (1, 1))
((None, None), (1, 4), (4, 9))
>>> ends_of_gaps(table)
[(0, -1), (1, -1), (2, 0), (2, 0), (2, 1), (2, 1), (2, 2)]
>>> bounds([[5, 0], [7, -3]], (1, 0)), seen_places([[5, 0], [7, -3]]), bounds([[3, 4], [9, 2]], (1, 0))
(None, [(0, 0), (0, 1), (1, 1)], (3, 4))
"""

ALIKE = """
>>> from halftables.alike import are_alike, parting_key
>>> are_alike([[1, 2], [0, 3]], [[1, 2], [8, 3]]), parting_key([[1, 2]], [[0, 2]])
(True, 0)
>>> are_alike([[5, 1, 3]], [[7, 1, 3]]), are_alike([[0, 1, 3]], [[5, 1, 3]]), parting_key([[5]], [[5], [6]])
(True, False, 7)
"""

CHANGES = """
>>> from halftables.changes import fewest_changes
>>> fewest_changes([[1, 5, 4], [2, 3, 9]], (1, 0)), fewest_changes([[6, 9], [7, 1], [5, 8]], (2, 0))
(0, 1)
"""

SUMS = """
>>> from halftables.sums import all_pairs_found, found_pairs, pair_end, pair_path
>>> pair_path([4, 1, 3], 4), pair_end([4, 1, 3], 4)
([(0, 2), (0, 1)], (0, 0))
>>> found_pairs([4, 1, 3]), all_pairs_found([1, 2, 4]), all_pairs_found([1, 2, 3, 4]), all_pairs_found([5, 1])
([(0, 1), (0, 2)], True, False, True)
"""

KINDS = """
>>> from halftables.kinds import Seeker
>>> seeker = Seeker([[1, 5, 4], [2, 3, 9]], 3)
>>> seeker.step(), seeker.step(), seeker.step(), seeker.step(), seeker.looked, seeker.ended
((0, 1), (0, 0), (1, 0), (2, 0), [(0, 2), (0, 1), (0, 0), (1, 0)], True)
>>> seeker.change((1, 0), 3), seeker.found, seeker.undo(), seeker.undo(), seeker.spot, seeker.rows
(2, False, None, None, (1, 0), [[1, 5, 4], [2, 3, 9]])
"""

TEXT = r"""
>>> from halftables.text import format_table, parse_table
>>> format_table([[1, -5], [0, 7]]), parse_table('3 4')
('1 -5\n0 7', [[3, 4]])
"""

README = Path(__file__).resolve().parent.parent / "README.md"


class ExamplesTest(unittest.TestCase):
    def assert_holds(self, text, name):
        told = []
        examples = DocTestParser().get_doctest(text, {}, name, name, 0)
        results = DocTestRunner(verbose=False).run(examples, out=told.append)
        self.assertGreater(results.attempted, 0, name)
        self.assertEqual(results.failed, 0, "".join(told))

    def test_search(self):
        self.assert_holds(SEARCH, "search")

    def test_counts(self):
        self.assert_holds(COUNTS, "counts")

    def test_bounds(self):
        self.assert_holds(BOUNDS, "bounds")

    def test_alike(self):
        self.assert_holds(ALIKE, "alike")

    def test_changes(self):
        self.assert_holds(CHANGES, "changes")

    def test_sums(self):
        self.assert_holds(SUMS, "sums")

    def test_kinds(self):
        self.assert_holds(KINDS, "kinds")

    def test_text(self):
        self.assert_holds(TEXT, "text")

    def test_refused_texts(self):
        for wrong, line in [("1\n", 1), ("", 0)]:
            with self.assertRaises(InvalidText) as caught:
                parse_table(wrong)
            self.assertEqual(caught.exception.line, line)

    def test_readme(self):
        blocks = README.read_text(encoding="utf-8").split("```python\n")[1:]
        self.assertGreater(len(blocks), 0)
        for number, block in enumerate(blocks):
            self.assert_holds(block.split("```")[0], f"README block {number}")
