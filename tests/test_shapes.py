"""Promise 6.2: shapes of permutations."""

import itertools
import math
import random
import unittest

import brute
from samples import WRONG
from speciesmill.errors import BadShape
from speciesmill.shapes import shape_of, shapes, weight


class Shapes(unittest.TestCase):
    def test_small_numbers(self):
        self.assertEqual(shapes(0), [()])
        self.assertEqual(shapes(1), [(1,)])
        self.assertEqual(shapes(4), [(4,), (3, 1), (2, 2), (2, 1, 1), (1, 1, 1, 1)])

    def test_all_of_them_in_descending_order(self):
        for n in range(9):
            rows = itertools.chain.from_iterable(itertools.product(range(1, n + 1), repeat=many) for many in range(n + 1))
            wanted = {tuple(sorted(row, reverse=True)) for row in rows if sum(row) == n}
            self.assertEqual(shapes(n), sorted(wanted, reverse=True))

    def test_great_numbers(self):
        # The numbers of partitions.
        many = [1, 1, 2, 3, 5, 7, 11, 15, 22, 30, 42, 56, 77, 101, 135, 176, 231, 297, 385, 490, 627]
        for n in range(21):
            found = shapes(n)
            self.assertEqual(len(found), many[n])
            self.assertEqual(found, sorted(set(found), reverse=True))
            for shape in found:
                self.assertEqual(sum(shape), n)
                self.assertEqual(shape, tuple(sorted(shape, reverse=True)))
                self.assertTrue(all(length > 0 for length in shape))

    def test_what_is_returned_is_new(self):
        shapes(5).clear()
        self.assertEqual(len(shapes(5)), 7)

    def test_wrong_numbers(self):
        for n in (21, 10**30, *WRONG):
            with self.assertRaises(BadShape):
                shapes(n)


class ShapesOfPermutations(unittest.TestCase):
    def test_all_small_ones(self):
        for size in range(7):
            for images in brute.permutations(size):
                self.assertEqual(shape_of(images), brute.cycle_lengths(images))

    def test_greater_ones(self):
        source = random.Random(6)
        for size in range(7, 21):
            for _ in range(50):
                images = list(range(1, size + 1))
                source.shuffle(images)
                self.assertEqual(shape_of(tuple(images)), brute.cycle_lengths(images))
            self.assertEqual(shape_of(tuple(range(1, size + 1))), (1,) * size)
            self.assertEqual(shape_of((size, *range(1, size))), (size,))

    def test_what_is_none(self):
        for value in (None, 1, "", "12", b"\x01", [], [1, 2], {}, {1: 1}, (0,), (2,), (1, 1), (1, 3), (2, 3), (0, 1), (-1, 1), (True,),
                      (True, 2), (1, 2, False), (1.0,), ("1",), (None,), ((1,),), ([1],), ({},), (1, 2, 2), (10**30,), {1, 2}, range(1, 3)):
            with self.assertRaises(BadShape, msg=value):
                shape_of(value)

    def test_more_than_20(self):
        self.assertEqual(shape_of(tuple(range(20, 0, -1))), (2,) * 10)
        for many in (21, 30, 1000):
            with self.assertRaises(BadShape):
                shape_of(tuple(range(1, many + 1)))


class Weights(unittest.TestCase):
    def test_permutations_that_commute(self):
        for size in range(6):
            everything = brute.permutations(size)
            for images in everything:
                same = [one for one in everything if all(one[image - 1] == images[other - 1] for image, other in zip(images, one))]
                self.assertEqual(weight(brute.cycle_lengths(images)), len(same))

    def test_some_of_them(self):
        self.assertEqual([weight(shape) for shape in shapes(4)], [4, 3, 8, 4, 24])
        self.assertEqual(weight(()), 1)
        self.assertEqual(weight((20,)), 20)
        self.assertEqual(weight((1,) * 20), math.factorial(20))
        self.assertEqual(weight((5, 5, 3, 3, 3, 1)), 25 * 2 * 27 * 6)

    def test_all_permutations_have_a_shape(self):
        for n in range(21):
            self.assertTrue(all(math.factorial(n) % weight(shape) == 0 for shape in shapes(n)))
            self.assertEqual(sum(math.factorial(n) // weight(shape) for shape in shapes(n)), math.factorial(n))

    def test_what_is_no_shape(self):
        for value in (None, 3, "", "21", b"\x01", [], [2, 1], {}, {1: 1}, (1, 2), (3, 1, 2), (2, 0), (0,), (-1,), (2, -1), (True,), (2, True),
                      (1.0,), ("1",), (None,), ((1,),), ([1],), range(2, 0, -1)):
            with self.assertRaises(BadShape, msg=value):
                weight(value)

    def test_more_than_20(self):
        for shape in ((21,), (20, 1), (11, 10), (1,) * 21, (10**30,)):
            with self.assertRaises(BadShape):
                weight(shape)


if __name__ == "__main__":
    unittest.main()
