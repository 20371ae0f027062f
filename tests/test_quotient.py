"""Promises 7.2, 7.5 and 7.6: quotients, their items and their rules."""

import random
import unittest

import brute
from speciesmill.errors import BadQuotient
from speciesmill.quotient import added, all_powers, multiplied, quotient_of, rule, taken, terms

ZERO = ((), (1,))
ONE = ((1,), (1,))
# What is no tuple of integers.
NO_TUPLES = (None, 1, "1", b"\x01", [], [1], {}, {1: 2}, (True,), (1, False), (1, 1.0), ("1",), (1, None), ((1,),), ([1],), range(1, 3))


def some(source, most, great, first=None):
    """A tuple of so many integers at most; it may end with 0."""
    items = [source.randint(-great, great) for _ in range(source.randint(1, most))]
    if first is not None:
        items[0] = first
    return tuple(items)


def trimmed(items):
    items = list(items)
    while items and items[-1] == 0:
        items.pop()
    return tuple(items)


def common_degree(first, second):
    """The degree of the greatest common divisor of two polynomials modulo a great prime; it is not less without that."""
    prime = 2**521 - 1
    one, other = [list(trimmed([item % prime for item in items])) for items in (first, second)]
    while other:
        inverse = pow(other[-1], -1, prime)
        while len(one) >= len(other):
            factor = one[-1] * inverse
            for at in range(len(other)):
                one[len(one) - len(other) + at] = (one[len(one) - len(other) + at] - factor * other[at]) % prime
            one = list(trimmed(one))
        one, other = other, one
    return len(one) - 1


def is_quotient(value):
    """Whether a value has the form of 7.2."""
    top, bottom = value
    for items in (top, bottom):
        if not isinstance(items, tuple) or any(type(item) is not int for item in items) or items[-1:] == (0,):
            return False
    return isinstance(value, tuple) and bottom[0] == 1 and (common_degree(bottom, top) if top else len(bottom) - 1) == 0


class Quotients(unittest.TestCase):
    def test_what_is_made_of_polynomials(self):
        source = random.Random(72)
        for great in (1, 2, 9, 2**64, 10**60):
            for _ in range(150):
                top, bottom = some(source, 7, great), some(source, 7, great, source.choice([1, -1]))
                made = quotient_of(top, bottom)
                self.assertTrue(is_quotient(made))
                # Both stand for the same row.
                self.assertEqual(brute.product_of(made[0], bottom), brute.product_of(top, made[1]))
                self.assertEqual(terms(made, 30), brute.series_of(top, bottom, 30))

    def test_common_divisors(self):
        source = random.Random(73)
        for great in (1, 3, 10**40):
            for _ in range(150):
                top, bottom = some(source, 5, great), some(source, 5, great, source.choice([1, -1]))
                third = some(source, 6, great, source.choice([1, -1]))
                common = quotient_of(brute.product_of(top, third) or (0,), brute.product_of(bottom, third))
                self.assertEqual(common, quotient_of(top, bottom))
        self.assertEqual(quotient_of((1, 1), (1, 2, 1)), ((1,), (1, 1)))
        self.assertEqual(quotient_of((1, 2, 1), (1, 1)), ((1, 1), (1,)))
        self.assertEqual(quotient_of((1, 0, -1), (-1, 1)), ((-1, -1), (1,)))
        self.assertEqual(quotient_of((0, 1, 0, -1), (1, 1)), ((0, 1, -1), (1,)))
        self.assertEqual(quotient_of((2, 2), (1, 1, 0, 0)), ((2,), (1,)))
        self.assertEqual(quotient_of((6, 12, 6), (1, 5, 8, 4)), ((6, 6), (1, 4, 4)))
        self.assertEqual(quotient_of((1, 1), (1, 514)), ((1, 1), (1, 514)))

    def test_no_common_divisors(self):
        self.assertEqual(quotient_of((1, -1), (1, -2)), ((1, -1), (1, -2)))
        self.assertEqual(quotient_of((4, 6), (1, 3)), ((4, 6), (1, 3)))
        self.assertEqual(quotient_of((1,), (1, 0, 0, -7)), ((1,), (1, 0, 0, -7)))

    def test_beginning_with_1_and_with_less(self):
        self.assertEqual(quotient_of((1,), (-1, 1)), ((-1,), (1, -1)))
        self.assertEqual(quotient_of((3, -2), (-1,)), ((-3, 2), (1,)))
        self.assertEqual(quotient_of((3, -2), (1,)), ((3, -2), (1,)))

    def test_zeros_at_the_ends(self):
        self.assertEqual(quotient_of((), (1,)), ZERO)
        self.assertEqual(quotient_of((), (-1, 5, 0)), ZERO)
        self.assertEqual(quotient_of((0, 0, 0), (1, 2)), ZERO)
        self.assertEqual(quotient_of((1, 0), (1, 2, 0, 0)), ((1,), (1, 2)))
        self.assertEqual(quotient_of((0, 0, 1), (1, 0)), ((0, 0, 1), (1,)))

    def test_200_and_201_items(self):
        ones = (1,) * 200
        self.assertEqual(quotient_of(ones, ones), ONE)
        self.assertEqual(quotient_of(ones, (1,)), (ones, (1,)))
        self.assertEqual(quotient_of((1,), ones), ((1,), ones))
        self.assertEqual(quotient_of((0,) * 200, (-1,) + (0,) * 199), ZERO)
        source = random.Random(74)
        for great in (1, 10**40):
            half = tuple(source.randint(-great, great) for _ in range(99))
            common = (1,) + half + (1,)
            top, bottom = brute.product_of((5,) + half, common), brute.product_of((-1,) + half[::-1], common)
            made = quotient_of(top, bottom)
            self.assertTrue(is_quotient(made))
            self.assertEqual(made, quotient_of((5,) + half, (-1,) + half[::-1]))
        for top, bottom in (((1,) * 201, (1,)), ((1,), (1,) * 201), ((0,) * 201, (1,)), ((1,), (1,) + (0,) * 200), ((1,) * 300, (1,) * 300)):
            with self.assertRaises(BadQuotient):
                quotient_of(top, bottom)

    def test_what_is_none(self):
        for wrong in NO_TUPLES:
            for right in ((1,), (-1, 2)):
                with self.assertRaises(BadQuotient, msg=wrong):
                    quotient_of(wrong, right)
                with self.assertRaises(BadQuotient, msg=wrong):
                    quotient_of(right, wrong)
        for bottom in ((), (0,), (0, 1), (2,), (-2, 1), (3, 1), (10**30,)):
            for top in ((), (1,), (2,), (2, 4)):
                with self.assertRaises(BadQuotient, msg=bottom):
                    quotient_of(top, bottom)


class Items(unittest.TestCase):
    def test_how_many(self):
        for quotient in (ZERO, ONE, ((1, 2, 3), (1,)), ((1,), (1, -1, -1)), ((0, 0, 5), (1, 2))):
            for count in (0, 1, 2, 3, 10, 500):
                self.assertEqual(terms(quotient, count), brute.series_of(*quotient, count))
        self.assertEqual(terms(ZERO, 4), [0, 0, 0, 0])
        self.assertEqual(terms(((7, 8), (1,)), 5), [7, 8, 0, 0, 0])
        self.assertEqual(terms(((1,), (1, -1, -1)), 10), [1, 1, 2, 3, 5, 8, 13, 21, 34, 55])
        self.assertEqual(terms(((1,), (1, -10)), 101)[100], 10**100)

    def test_what_is_returned_is_new(self):
        quotient = ((1,), (1, -2))
        terms(quotient, 5).clear()
        self.assertEqual(terms(quotient, 5), [1, 2, 4, 8, 16])
        self.assertEqual(quotient, ((1,), (1, -2)))

    def test_different_quotients_have_different_items(self):
        source = random.Random(75)
        found = {}
        for _ in range(500):
            made = quotient_of(some(source, 3, 2), some(source, 3, 2, 1))
            row = tuple(terms(made, 12))
            self.assertEqual(found.setdefault(row, made), made)


class Rules(unittest.TestCase):
    def test_items_that_follow(self):
        source = random.Random(76)
        for _ in range(200):
            made = quotient_of(some(source, 6, 9), some(source, 6, 9, 1))
            begin, factors = rule(made)
            self.assertEqual(factors, tuple(-item for item in made[1][1:]))
            self.assertEqual(begin, max(len(factors), len(made[0])))
            items = terms(made, begin + 20)
            for n in range(begin, begin + 20):
                self.assertEqual(items[n], sum(factor * items[n - at - 1] for at, factor in enumerate(factors)))

    def test_some_rules(self):
        self.assertEqual(rule(ZERO), (0, ()))
        self.assertEqual(rule(ONE), (1, ()))
        self.assertEqual(rule(((1, -1), (1, -2))), (2, (2,)))
        self.assertEqual(rule(((1,), (1, -1, -1))), (2, (1, 1)))
        self.assertEqual(rule(((0, 0, 0, 4), (1, 0, 5))), (4, (0, -5)))
        self.assertIsInstance(rule(ONE), tuple)
        self.assertIsInstance(rule(ONE)[1], tuple)


class SumsAndProducts(unittest.TestCase):
    def test_against_the_items(self):
        source = random.Random(77)
        for great in (1, 2, 10, 10**30):
            for _ in range(120):
                first = quotient_of(some(source, 5, great), some(source, 5, great, 1))
                second = quotient_of(some(source, 5, great), some(source, 5, great, source.choice([1, -1])))
                one, other = terms(first, 25), terms(second, 25)
                for made, wanted in (
                    (added(first, second), [a + b for a, b in zip(one, other)]), (taken(first, second), [a - b for a, b in zip(one, other)]),
                    (multiplied(first, second), [sum(one[at] * other[n - at] for at in range(n + 1)) for n in range(25)]),
                ):
                    self.assertTrue(is_quotient(made))
                    self.assertEqual(terms(made, 25), wanted)

    def test_there_and_back(self):
        source = random.Random(78)
        for _ in range(200):
            first = quotient_of(some(source, 6, 20), some(source, 6, 20, 1))
            second = quotient_of(some(source, 6, 20), some(source, 6, 20, 1))
            self.assertEqual(taken(added(first, second), second), first)
            self.assertEqual(added(first, second), added(second, first))
            self.assertEqual(multiplied(first, second), multiplied(second, first))
            self.assertEqual(taken(first, first), ZERO)
            self.assertEqual(added(first, ZERO), first)
            self.assertEqual(multiplied(first, ONE), first)
            self.assertEqual(multiplied(first, ZERO), ZERO)

    def test_what_falls_away(self):
        self.assertEqual(multiplied(((1,), (1, -2)), ((1, -2), (1,))), ONE)
        self.assertEqual(added(((1,), (1, -1)), ((-1,), (1, -1))), ZERO)
        self.assertEqual(added(((1,), (1, 0, -1)), ((0, 1), (1, 0, -1))), ((1,), (1, -1)))
        self.assertEqual(taken(((1,), (1, -1)), ((0, 1), (1, -1))), ONE)

    def test_more_than_200_items(self):
        first, second = ((1,) * 200, (1,)), ((1,), (1,) * 200)
        self.assertEqual(multiplied(first, second), ONE)
        self.assertEqual(multiplied(first, first), (brute.product_of((1,) * 200, (1,) * 200), (1,)))
        self.assertEqual(multiplied(second, second), ((1,), brute.product_of((1,) * 200, (1,) * 200)))
        self.assertEqual(terms(added(first, second), 500), [a + b for a, b in zip(terms(first, 500), terms(second, 500))])

    def test_all_powers(self):
        source = random.Random(79)
        for _ in range(100):
            first = quotient_of(some(source, 5, 5, 0), some(source, 5, 5, 1))
            self.assertTrue(is_quotient(all_powers(first)))
            self.assertEqual(multiplied(all_powers(first), taken(ONE, first)), ONE)


if __name__ == "__main__":
    unittest.main()
