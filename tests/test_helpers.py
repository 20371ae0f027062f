"""The small questions that several parts ask."""

import unittest
from math import gcd

from speciesmill.helpers import are_bounds, divisors, greatest, is_whole, moebius, more_than_one, power, totient, turns_of


class Helpers(unittest.TestCase):
    def test_integers(self):
        for value in (0, 1, -5, 10**40):
            self.assertTrue(is_whole(value))
        for value in (True, False, None, 1.0, "1", b"1", (), [1]):
            self.assertFalse(is_whole(value))

    def test_bounds(self):
        self.assertTrue(are_bounds("row", 0, 0))
        self.assertTrue(are_bounds("ring", 1, 10**40))
        self.assertFalse(are_bounds("ring", 0, None))
        self.assertTrue(more_than_one(None))
        self.assertEqual([more_than_one(most) for most in range(4)], [False, False, True, True])

    def test_the_greatest_number_that_fits(self):
        for low in range(4):
            for high in range(low, 9):
                for last in range(low, high + 1):
                    self.assertEqual(greatest(low, high, lambda number: number <= last), last)
        self.assertEqual(greatest(0, 10**40, lambda number: number * number <= 10**60), 10**30)

    def test_powers(self):
        self.assertEqual([power(base, times) for base in (0, 1, 3, -2) for times in (0, 1, 4)], [1, 0, 0, 1, 1, 1, 1, 3, 81, 1, -2, 16])

    def test_turns(self):
        self.assertEqual(turns_of((1, 2, 3)), [(1, 2, 3), (2, 3, 1), (3, 1, 2)])
        self.assertEqual(turns_of((5, 5)), [(5, 5), (5, 5)])
        self.assertEqual(turns_of(()), [])

    def test_divisors(self):
        for number in range(1, 61):
            self.assertEqual(divisors(number), [part for part in range(1, 61) if number % part == 0])

    def test_totients(self):
        self.assertEqual([totient(number) for number in range(1, 13)], [1, 1, 2, 2, 4, 2, 6, 4, 6, 4, 10, 4])
        for number in range(1, 61):
            self.assertEqual(sum(totient(part) for part in divisors(number)), number)
            self.assertEqual(totient(number), sum(gcd(part, number) == 1 for part in range(number)) or 1)

    def test_moebius(self):
        self.assertEqual([moebius(number) for number in range(1, 13)], [1, -1, -1, 0, -1, 1, -1, 0, 0, 1, -1, 0])
        self.assertEqual([moebius(number) for number in (30, 42, 49, 60, 210)], [-1, -1, 0, 0, 1])
        for number in range(2, 61):
            self.assertEqual(sum(moebius(part) for part in divisors(number)), 0)


if __name__ == "__main__":
    unittest.main()
