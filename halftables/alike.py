"""Tables in which all whole keys have the same ends."""

from halftables.checks import check_table
from halftables.search import walk


def are_alike(table, other):
    """Tell whether each whole key has the same end in two tables."""
    check_table(table)
    check_table(other)
    return _least_parting(table, other) is None


def parting_key(table, other):
    """Return the least whole key with unlike ends in two tables, or None if they are alike."""
    check_table(table)
    check_table(other)
    return _least_parting(table, other)


def _least_parting(table, other):
    """Return the least whole key with unlike ends in two checked tables, or None."""
    # Keys less than all values end alike in all tables, and a key that is neither
    # a value nor one more than a value has the same end as the key before it.
    values = [value for row in table + other for value in row]
    for key in sorted({value + more for value in values for more in (0, 1)}):
        if walk(table, key)[1] != walk(other, key)[1]:
            return key
    return None
