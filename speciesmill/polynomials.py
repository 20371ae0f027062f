"""Polynomials with integer coefficients: tuples of these, the constant one first, that do not end with 0."""

from itertools import zip_longest
from math import gcd

# How many more bits a number has, at least, at which polynomials are read, than their coefficients.
SPARE_BITS = 8


def trimmed(items):
    """The polynomial with coefficients that may end with 0."""
    many = len(items)
    while many > 0 and items[many - 1] == 0:
        many -= 1
    return tuple(items[:many])


def plus(first, second):
    """The sum of two polynomials."""
    return trimmed([one + other for one, other in zip_longest(first, second, fillvalue=0)])


def minus(first, second):
    """The difference of two polynomials."""
    return trimmed([one - other for one, other in zip_longest(first, second, fillvalue=0)])


def times(first, second):
    """The product of two polynomials: that of two numbers of which their coefficients are the digits."""
    if not first or not second:
        return ()
    fewest = min(len(first), len(second))
    bits = width_of(first) + width_of(second) + fewest.bit_length() + 1
    many = len(first) + len(second) - 1
    return trimmed(unpacked(packed(first, bits) * packed(second, bits), bits, many))


def series(top, bottom, many):
    """The first coefficients of top divided by bottom, which begins with 1."""
    steps = [(at, item) for at, item in enumerate(bottom) if at > 0 and item != 0]
    items = []
    for n in range(many):
        item = top[n] if n < len(top) else 0
        items.append(item - sum([factor * items[n - at] for at, factor in steps if at <= n]))
    return items


def divided(whole, part):
    """The polynomial that gives a whole one, multiplied by a part that begins with 1; None if there is none."""
    found = trimmed(series(whole, part, len(whole) - len(part) + 1))
    return found if times(part, found) == whole else None


def common_divisor(first, second):
    """The greatest common divisor, beginning with 1, of two polynomials, the first not 0, the second beginning with 1.

    Both are read at a number that is a power of 2. The greatest common divisor of their values is the value of a
    polynomial whose coefficients are at most half as great as that number. This one, without its content, is the
    common divisor that is looked for, if it divides both: what were missing to it would be a polynomial that divides
    them and the content; but so far beyond the coefficients it has a value greater than the content. For a number
    that is great enough it does divide both, since the values of two polynomials without a common divisor have but
    few in common.
    """
    begin = primitive(first)
    bits = min(width_of(begin), width_of(second)) + SPARE_BITS
    found = _candidate(begin, second, bits)
    while found[0] != 1 or divided(begin, found) is None or divided(second, found) is None:
        bits = 2 * bits
        found = _candidate(begin, second, bits)
    return found


def _candidate(first, second, bits):
    """What is the greatest common divisor of two polynomials, if they are read at a number that is great enough."""
    value = gcd(packed(first, bits), packed(second, bits))
    return primitive(unpacked(value, bits, value.bit_length() // bits + 2))


def primitive(items):
    """A polynomial without the factor x, and divided by what all of its coefficients have in common.

    The constant one is above 0 then.
    """
    first = min([at for at, item in enumerate(items) if item != 0])
    content = 0
    for item in items[first:]:
        content = gcd(content, item)
    if items[first] < 0:
        content = -content
    return trimmed([item // content for item in items[first:]])


def width_of(items):
    """The number of bits of the greatest coefficient."""
    return max([abs(item) for item in items]).bit_length()


def packed(items, bits):
    """The value of a polynomial that is not 0 at 2 to the power of `bits`."""
    values = list(items)
    width = bits
    while len(values) > 1:
        if len(values) % 2 == 1:
            values.append(0)
        values = [values[at] + (values[at + 1] << width) for at in range(0, len(values), 2)]
        width = 2 * width
    return values[0]


def unpacked(number, bits, many):
    """The coefficients, as many or with further zeros, of a polynomial with this value at 2 to the power of `bits`.

    They are at most half as great as that. If there is one of which they are all less, it is this one.
    """
    width = bits
    while width < bits * many:
        width = 2 * width
    values = [number]
    while width > bits:
        width = width // 2
        values = [part for value in values for part in _halves(value, width)]
    return values


def _halves(value, width):
    """Two numbers: the first one, and the second one moved by so many bits, add up to the value.

    The first one is at most half as great as what has one bit more.
    """
    half = 1 << (width - 1)
    low = ((value + half) & ((1 << width) - 1)) - half
    return (low, (value - low) >> width)
