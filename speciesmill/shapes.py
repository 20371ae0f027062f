"""The shapes of permutations: the lengths of their cycles, in descending order."""

from math import factorial

from speciesmill.errors import BadShape
from speciesmill.helpers import is_whole, power

MOST_THINGS = 20


def shapes(n):
    """The list of all shapes of permutations of n things, in descending order."""
    if not is_whole(n) or not 0 <= n <= MOST_THINGS:
        raise BadShape(f"shapes are listed for 0 to {MOST_THINGS} things")
    return _shapes_within(n, n)


def _shapes_within(n, longest):
    """As shapes, if no cycle is longer than a longest one."""
    if n == 0:
        return [()]
    found = []
    for first in range(min(n, longest), 0, -1):
        found.extend([(first, *others) for others in _shapes_within(n - first, first)])
    return found


def shape_of(images):
    """The shape of the permutation that is given by the images of 1, 2 and so on."""
    _check_permutation(images)
    lengths = []
    seen = {}
    for start in images:
        length = 0
        number = start
        while number not in seen:
            seen[number] = True
            length += 1
            number = images[number - 1]
        if length > 0:
            lengths.append(length)
    return tuple(sorted(lengths, reverse=True))


def _check_permutation(images):
    """Raises BadShape if a value is not a tuple of the images of up to 20 numbers."""
    if not isinstance(images, tuple) or len(images) > MOST_THINGS:
        raise BadShape(f"a permutation is a tuple of at most {MOST_THINGS} images")
    if any([not is_whole(number) for number in images]) or sorted(images) != list(range(1, len(images) + 1)):
        raise BadShape("the images are not the numbers from 1 on, each once")


def weight(shape):
    """How many permutations leave a permutation of a shape the same if they conjugate it."""
    check_shape(shape)
    if sum(shape) > MOST_THINGS:
        raise BadShape(f"the shape is one of more than {MOST_THINGS} things")
    ways = 1
    for length in sorted(set(shape)):
        many = shape.count(length)
        ways = ways * power(length, many) * factorial(many)
    return ways


def check_shape(shape):
    """Raises BadShape if a value is not a shape, of any number of things."""
    if not isinstance(shape, tuple) or any([not is_whole(length) or length < 1 for length in shape]):
        raise BadShape("a shape is a tuple of integers from 1 on")
    if any([shape[at] < shape[at + 1] for at in range(len(shape) - 1)]):
        raise BadShape("the lengths do not descend")
