"""The polynomials of which quotients are made."""

import random
import unittest

import brute
from speciesmill.polynomials import common_divisor, divided, minus, packed, plus, primitive, series, times, trimmed, unpacked


def some(source, most, great, first=None):
    """A polynomial with at most so many coefficients."""
    items = [source.randint(-great, great) for _ in range(source.randint(1, most))]
    if first is not None:
        items[0] = first
    return trimmed(items)


class Polynomials(unittest.TestCase):
    def test_ends(self):
        self.assertEqual(trimmed([0, 0]), ())
        self.assertEqual(trimmed(()), ())
        self.assertEqual(trimmed([0, 1, 0]), (0, 1))

    def test_sums_and_differences(self):
        self.assertEqual(plus((1, 2), (3, -2)), (4,))
        self.assertEqual(plus((1,), (3, -2)), (4, -2))
        self.assertEqual(minus((1, 2, 3), (1, 2, 3)), ())
        self.assertEqual(minus((), (1, 2)), (-1, -2))

    def test_products(self):
        source = random.Random(70)
        for great in (1, 2, 3, 10, 2**31, 10**40):
            for _ in range(300):
                first, second = some(source, 9, great), some(source, 9, great)
                self.assertEqual(times(first, second), brute.product_of(first, second))
        # All coefficients as great as can be, of either sign.
        for great in (1, 3, 4, 7, 8, 2**32):
            for many in (1, 2, 3, 4, 7, 8, 9, 31, 32, 33):
                for signs in ((1, 1), (1, -1), (-1, -1)):
                    first, second = (great * signs[0],) * many, (great * signs[1],) * many
                    self.assertEqual(times(first, second), brute.product_of(first, second))

    def test_packed_and_unpacked(self):
        self.assertEqual(packed((1, -2, 3), 10), 1 - 2 * 2**10 + 3 * 2**20)
        self.assertEqual(packed((7,), 10), 7)
        self.assertEqual(trimmed(unpacked(1 - 2 * 2**10 + 3 * 2**20, 10, 3)), (1, -2, 3))
        source = random.Random(71)
        for bits in (2, 3, 8, 65):
            for _ in range(200):
                items = some(source, 12, 2 ** (bits - 1) - 1)
                if items:
                    self.assertEqual(trimmed(unpacked(packed(items, bits), bits, len(items))), items)

    def test_divided(self):
        source = random.Random(72)
        for great in (1, 5, 10**20):
            for _ in range(200):
                part, other = some(source, 6, great, 1), some(source, 6, great)
                self.assertEqual(divided(times(part, other), part), other)
                if len(part) > 1:
                    self.assertIsNone(divided(plus(times(part, other), (1,)), part))
        self.assertIsNone(divided((1, 1), (1, 1, 1)))
        self.assertEqual(series((1,), (1, -1, -1), 7), [1, 1, 2, 3, 5, 8, 13])

    def test_primitive(self):
        self.assertEqual(primitive((0, 0, -4, 6)), (2, -3))
        self.assertEqual(primitive((5,)), (1,))
        self.assertEqual(primitive((-3, 2)), (3, -2))

    def test_common_divisors(self):
        source = random.Random(73)
        for great in (1, 2, 10, 10**50):
            for _ in range(200):
                common = some(source, 5, great, 1)
                # Neighbours in this row have no common divisor but constants.
                one, other = (1,), (1, source.randint(-great, great), 1)
                for _ in range(source.randint(0, 3)):
                    one, other = other, plus(times(other, (1, source.randint(-great, great))), (0, *one))
                self.assertEqual(common_divisor(times(times(common, one), (0, 0, -6)), times(common, other)), common)

    def test_values_that_have_more_in_common_than_the_polynomials(self):
        for bits in range(1, 40):
            number = 2**bits
            # At this number the value of the first one divides that of the second one.
            self.assertEqual(common_divisor((1, 1), (1, number + 2)), (1,))
            self.assertEqual(common_divisor((-number, 1), (1, 1)), (1,))
            self.assertEqual(common_divisor(times((1, 1), (1, 0, 3)), times((1, number + 2), (1, 0, 3))), (1, 0, 3))

    def test_divisors_with_greater_coefficients(self):
        def ring(many):
            return (1,) + (0,) * (many - 1) + (-1,)

        # A divisor of x^105 - 1, though that has no coefficient but 1 and -1, has the coefficient -2.
        part = times(times(ring(105), ring(7)), times(ring(5), ring(3)))
        for many in (35, 21, 15, 1):
            part = divided(part, ring(many))
        self.assertEqual((len(part), min(part)), (49, -2))
        self.assertEqual(common_divisor(ring(105), times(part, (1, 7, 1))), part)
        self.assertEqual(common_divisor(times(part, (1, 7, 1)), ring(105)), part)
        self.assertEqual(common_divisor(ring(60), ring(42)), ring(6))


if __name__ == "__main__":
    unittest.main()
