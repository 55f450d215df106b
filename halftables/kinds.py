"""The search from a corner as an object that goes on step by step."""

from halftables.checks import check_key, check_place, check_table, is_whole
from halftables.errors import Ended, InvalidNumber, NothingToUndo


class Seeker:
    """A search for a key in a table of its own."""

    def __init__(self, table, key):
        check_table(table)
        check_key(key)
        self._rows = [list(row) for row in table]
        self._key = key
        self._spot = (0, len(table[0]) - 1)
        self._looked = []
        self._ended = False
        self._found = False
        self._done = []

    @property
    def rows(self):
        """The table as it is now."""
        return [list(row) for row in self._rows]

    @property
    def spot(self):
        """The place at which the search stands, or its end outside."""
        return self._spot

    @property
    def looked(self):
        """The places at which the search has looked, in its order."""
        return list(self._looked)

    @property
    def ended(self):
        """Whether the search has ended."""
        return self._ended

    @property
    def found(self):
        """Whether the search has found the key."""
        return self._found

    def step(self):
        """Look at the value at the spot, go on or find the key, and return the spot then."""
        if self._ended:
            raise Ended()
        row, column = self._spot
        value = self._rows[row][column]
        self._looked.append(self._spot)
        self._done.append(None)
        if value < self._key:
            self._spot = (row + 1, column)
        elif value > self._key:
            self._spot = (row, column - 1)
        self._found = value == self._key
        self._ended = self._found or self._is_outside()
        return self._spot

    def change(self, place, value):
        """Change a value of the table, and return the old one."""
        check_place(place, len(self._rows), len(self._rows[0]))
        if not is_whole(value):
            raise InvalidNumber(value)
        row, column = place
        old = self._rows[row][column]
        self._rows[row][column] = value
        self._done.append((row, column, old))
        return old

    def undo(self):
        """Take back the last step or change that was not taken back yet."""
        if not self._done:
            raise NothingToUndo()
        last = self._done.pop()
        if last is None:
            self._undo_step()
        else:
            row, column, old = last
            self._rows[row][column] = old

    def _undo_step(self):
        """Go back to the place at which the search has looked last."""
        # A search that has ended takes no step, so it had not ended before this one.
        self._spot = self._looked.pop()
        self._ended = False
        self._found = False

    def _is_outside(self):
        """Tell whether the search has left the table."""
        row, column = self._spot
        return row == len(self._rows) or column == -1
