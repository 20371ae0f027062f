"""Small questions about values and numbers that several parts ask."""

from math import gcd


def is_whole(value):
    """Whether a value is an integer; True and False are none."""
    return isinstance(value, int) and not isinstance(value, bool)


def are_bounds(word, least, most):
    """Whether two values are numbers of members for a "row", "set" or "ring", of any size."""
    lowest = 1 if word == "ring" else 0
    if not is_whole(least) or least < lowest:
        return False
    return most is None or (is_whole(most) and most >= least)


def more_than_one(most):
    """Whether a greatest number of members, or None for no bound, allows two members."""
    return most is None or most > 1


def greatest(low, high, fits):
    """The greatest number from `low` to `high` that fits, if `low` does, and each one below another that does."""
    while low < high:
        middle = (low + high + 1) // 2
        if fits(middle):
            low = middle
        else:
            high = middle - 1
    return low


def power(base, times):
    """The product of so many equal numbers."""
    total = 1
    for _ in range(times):
        total = total * base
    return total


def turns_of(row):
    """A tuple read from each of its members around."""
    return [row[at:] + row[:at] for at in range(len(row))]


def divisors(number):
    """The divisors of a number from 1 on, in ascending order."""
    return [part for part in range(1, number + 1) if number % part == 0]


def totient(number):
    """How many integers from 1 to a number have no divisor but 1 in common with it."""
    return len([part for part in range(1, number + 1) if gcd(part, number) == 1])


def moebius(number):
    """0 if the square of a prime divides a number, else 1 or -1 for an even or odd number of primes."""
    sign = 1
    rest = number
    prime = 2
    while rest > 1:
        if rest % prime == 0:
            rest = rest // prime
            sign = -sign
            if rest % prime == 0:
                return 0
        prime += 1
    return sign
