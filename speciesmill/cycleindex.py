"""How many labelled structures the permutations of a shape keep."""

from speciesmill.checks import check_names
from speciesmill.errors import BadShape, TooGreat
from speciesmill.helpers import is_whole
from speciesmill.keeper import Keeper
from speciesmill.shapes import check_shape, shapes

GREATEST_SIZE = 10


def kept(spec, name, shape):
    """The number of labelled structures of a name that a permutation of a shape keeps."""
    check_names(spec, [name])
    check_shape(shape)
    _check_size(sum(shape))
    return Keeper(spec).told(name, shape)


def cycle_sum(spec, name, n):
    """The pairs of a shape and of the number of structures of a name that are kept, for all shapes of n."""
    check_names(spec, [name])
    if not is_whole(n) or n < 0:
        raise BadShape("a number of things is an integer from 0 on")
    _check_size(n)
    keeper = Keeper(spec)
    return [(shape, keeper.told(name, shape)) for shape in shapes(n)]


def _check_size(n):
    """Raises TooGreat if a number from 0 on is greater than what is counted here."""
    if n > GREATEST_SIZE:
        raise TooGreat(f"kept structures are counted for at most {GREATEST_SIZE} atoms")
