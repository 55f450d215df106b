"""The search for two values with a given sum, from both ends of a list."""

from halftables.checks import check_key, is_whole
from halftables.errors import InvalidValues

FEWEST = 2
MOST = 30


def pair_path(values, total):
    """Return the pairs of places at whose sums the search looks, in its order."""
    _check_values(values)
    check_key(total)
    return _search(values, total)[0]


def pair_end(values, total):
    """Return the two places at which the search for a sum ends, the same ones if it finds nothing."""
    _check_values(values)
    check_key(total)
    return _search(values, total)[1]


def found_pairs(values):
    """Return the pairs of places that the search finds, ascending."""
    _check_values(values)
    return _pairs_found(values)


def all_pairs_found(values):
    """Tell whether every pair of places is found."""
    _check_values(values)
    return len(_pairs_found(values)) == len(_pairs(values))


def _check_values(values):
    """Raise InvalidValues if a thing is not a list of values."""
    if not isinstance(values, list) or not FEWEST <= len(values) <= MOST:
        raise InvalidValues(None)
    for index, value in enumerate(values):
        if not is_whole(value):
            raise InvalidValues(index)


def _search(values, total):
    """Return the path and the end of the search for a sum in a checked list."""
    looked = []
    first = 0
    second = len(values) - 1
    while first < second:
        looked.append((first, second))
        both = values[first] + values[second]
        if both == total:
            break
        if both < total:
            first += 1
        else:
            second -= 1
    return looked, (first, second)


def _pairs(values):
    """Return all pairs of places of a checked list, ascending."""
    return [(first, second) for first in range(len(values)) for second in range(first + 1, len(values))]


def _pairs_found(values):
    """Return the pairs of a checked list that the search finds, ascending."""
    return [
        (first, second)
        for first, second in _pairs(values)
        if _search(values, values[first] + values[second])[1] == (first, second)
    ]
