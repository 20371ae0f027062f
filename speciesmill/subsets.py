"""Ascending tuples of some of the first numbers, in order, and ways to share labels among two parts."""

from itertools import combinations
from math import comb

from speciesmill.errors import BadIndex
from speciesmill.helpers import greatest, is_whole


def subset_at(size, members, index):
    """The ascending tuple of so many of the numbers from 1 to a size that has an index."""
    if any([not is_whole(value) or value < 0 for value in (size, members, index)]):
        raise BadIndex("the size, the number of members and the index are integers from 0 on")
    if index >= comb(size, members):
        raise BadIndex("there are not so many tuples")
    found = []
    last = 0
    rest = index
    for remaining in range(members, 0, -1):
        number = _number_at(size, last, remaining, rest)
        rest -= _before(size, last, remaining, number)
        found.append(number)
        last = number
    return tuple(found)


def subset_index(size, subset):
    """The index of an ascending tuple among those of as many of the numbers from 1 to a size."""
    if not is_whole(size) or size < 0 or not isinstance(subset, tuple):
        raise BadIndex("this is not a size from 0 on and a tuple")
    if any([not is_whole(number) or number > size for number in subset]):
        raise BadIndex("the members are not numbers up to the size")
    index = 0
    last = 0
    for at, number in enumerate(subset):
        if number <= last:
            raise BadIndex("the members do not ascend from 1 on")
        index += _before(size, last, len(subset) - at, number)
        last = number
    return index


def _before(size, last, members, number):
    """How many tuples of so many of the numbers above `last` begin with one that is less than a number."""
    return comb(size - last, members) - comb(size - number + 1, members)


def _number_at(size, last, members, index):
    """The first number of the tuple with an index among those of so many of the numbers above `last`."""
    return greatest(last + 1, size, lambda number: _before(size, last, members, number) <= index)


def choices(labels, many):
    """All ascending tuples of so many of the labels of an ascending tuple, in order."""
    return list(combinations(list(labels), many))


def shares(labels, many, held):
    """All ways to give so many labels to a first part, in order: the pairs of its labels and of the others.

    The first ones of the labels, as many as `held` says, belong to the first part in any case.
    """
    kept = labels[:held]
    free = labels[held:]
    pairs = []
    for chosen in choices(free, many - held):
        others = [label for label in free if label not in chosen]
        pairs.append((kept + chosen, tuple(others)))
    return pairs
