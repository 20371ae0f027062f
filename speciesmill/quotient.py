"""Quotients of polynomials, which stand for the endless rows of the coefficients of their series."""

from speciesmill.errors import BadQuotient
from speciesmill.helpers import is_whole
from speciesmill.polynomials import common_divisor, divided, minus, plus, series, times, trimmed

MOST_ITEMS = 200


def quotient_of(top, bottom):
    """The quotient of two polynomials, of which the second begins with 1 or -1."""
    for items in (top, bottom):
        if not isinstance(items, tuple) or len(items) > MOST_ITEMS or any([not is_whole(item) for item in items]):
            raise BadQuotient(f"polynomials are tuples of at most {MOST_ITEMS} integers")
    if len(bottom) == 0 or bottom[0] not in (1, -1):
        raise BadQuotient("the lower polynomial does not begin with 1 or -1")
    sign = bottom[0]
    return _without_common(trimmed([sign * item for item in top]), trimmed([sign * item for item in bottom]))


def _without_common(top, bottom):
    """The quotient of two polynomials, of which the second begins with 1."""
    if not top:
        return ((), (1,))
    common = common_divisor(top, bottom)
    return (divided(top, common), divided(bottom, common))


def added(first, second):
    """The sum of two quotients."""
    return _combined(first, second, plus)


def taken(first, second):
    """The difference of two quotients."""
    return _combined(first, second, minus)


def _combined(first, second, combine):
    """The sum or difference of two quotients, by that of two polynomials."""
    tops = combine(times(first[0], second[1]), times(second[0], first[1]))
    return _without_common(tops, times(first[1], second[1]))


def multiplied(first, second):
    """The product of two quotients."""
    return _without_common(times(first[0], second[0]), times(first[1], second[1]))


def all_powers(quotient):
    """The sum of all powers of a quotient whose row begins with 0: 1 divided by 1 - quotient."""
    top, bottom = quotient
    # What divides both of these divides the top as well.
    return (bottom, minus(bottom, top))


def terms(quotient, count):
    """The first items of the row for which a quotient stands."""
    top, bottom = quotient
    return series(top, bottom, count)


def rule(quotient):
    """The size from which on, and the factors by which, each item follows from those before."""
    top, bottom = quotient
    factors = tuple([-item for item in bottom[1:]])
    return (max(len(factors), len(top)), factors)
