"""Unlabelled structures, with and without colours, counted by what the permutations of their labels keep."""

from math import factorial

from speciesmill.checks import check_names
from speciesmill.cycleindex import cycle_sum
from speciesmill.errors import BadShape
from speciesmill.helpers import is_whole, power
from speciesmill.shapes import weight


def orbits(spec, name, n):
    """The number of unlabelled structures of a name and the size n."""
    return _mean(spec, name, n, lambda shape: 1)


def coloured(spec, name, n, colours):
    """The number of unlabelled structures of a name and the size n each of whose atoms has one of so many colours."""
    return _mean(spec, name, n, lambda shape: power(colours, len(shape)))


def inventory(spec, name, contents):
    """The number of unlabelled structures of a name with so many atoms of each colour."""
    check_names(spec, [name])
    if not isinstance(contents, tuple) or any([not is_whole(many) or many < 0 for many in contents]):
        raise BadShape("contents are a tuple of integers from 0 on")
    wanted = tuple([many for many in contents if many > 0])
    return _mean(spec, name, sum(contents), lambda shape: _fillings(shape, wanted))


def _mean(spec, name, n, ways):
    """The mean, over all permutations of n things, of the structures kept times the ways to colour the cycles."""
    total = 0
    for shape, many in cycle_sum(spec, name, n):
        if many > 0:
            total += many * ways(shape) * (factorial(n) // weight(shape))
    return total // factorial(n)


def _fillings(shape, contents):
    """In how many ways cycles get colours so that there are so many things of each colour, and no others."""
    numbers = {contents: 1}
    for length in shape:
        filled = {}
        for left in numbers:
            for at, many in enumerate(left):
                if many >= length:
                    rest = (*left[:at], many - length, *left[at + 1:])
                    filled[rest] = filled.get(rest, 0) + numbers[left]
        numbers = filled
    return sum(list(numbers.values()))
