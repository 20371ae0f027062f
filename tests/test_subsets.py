"""Promise 5.5, with the example of 5.15: ascending tuples of some of the first numbers, and their indexes."""

import itertools
import math
import unittest

from samples import WRONG
from speciesmill.errors import BadIndex
from speciesmill.subsets import shares, subset_at, subset_index


class Subsets(unittest.TestCase):
    def bad_at(self, *arguments):
        with self.assertRaises(BadIndex, msg=arguments):
            subset_at(*arguments)

    def bad_index(self, *arguments):
        with self.assertRaises(BadIndex, msg=arguments):
            subset_index(*arguments)

    def test_the_example(self):
        wanted = [(1, 2), (1, 3), (1, 4), (2, 3), (2, 4), (3, 4)]
        self.assertEqual([subset_at(4, 2, index) for index in range(6)], wanted)
        self.assertEqual(subset_index(4, (2, 3)), 3)

    def test_all_small_ones(self):
        for size in range(9):
            for members in range(size + 1):
                wanted = list(itertools.combinations(range(1, size + 1), members))
                self.assertEqual([subset_at(size, members, index) for index in range(len(wanted))], wanted)
                self.assertEqual([subset_index(size, subset) for subset in wanted], list(range(len(wanted))))
                self.bad_at(size, members, len(wanted))

    def test_no_members_and_all_members(self):
        for size in (0, 1, 30, 60):
            everything = tuple(range(1, size + 1))
            self.assertEqual(subset_at(size, 0, 0), ())
            self.assertEqual(subset_index(size, ()), 0)
            self.assertEqual(subset_at(size, size, 0), everything)
            self.assertEqual(subset_index(size, everything), 0)
            self.bad_at(size, 0, 1)
            self.bad_at(size, size, 1)

    def test_great_sizes(self):
        for size in (31, 59, 60):
            for members in (1, 2, 17, 30, size - 2):
                many = math.comb(size, members)
                first, last = tuple(range(1, members + 1)), tuple(range(size - members + 1, size + 1))
                self.assertEqual((subset_at(size, members, 0), subset_at(size, members, many - 1)), (first, last))
                previous = None
                for index in sorted({0, 1, many // 7, many // 7 + 1, many // 2, many - 1}):
                    subset = subset_at(size, members, index)
                    self.assertEqual(subset_index(size, subset), index)
                    self.assertEqual(subset, tuple(sorted(set(subset))))
                    self.assertTrue(previous is None or previous < subset)
                    previous = subset
                self.bad_at(size, members, many)

    def test_sizes_far_beyond(self):
        self.assertEqual(subset_at(10**30, 1, 10**29), (10**29 + 1,))
        self.assertEqual(subset_index(10**30, (10**29 + 1,)), 10**29)
        self.assertEqual(subset_index(10**30, subset_at(10**30, 3, 10**80)), 10**80)

    def test_more_members_than_the_size(self):
        for size in range(4):
            self.bad_at(size, size + 1, 0)
            self.bad_at(size, 60, 0)
            self.bad_index(size, tuple(range(1, size + 2)))

    def test_wrong_arguments(self):
        for wrong in WRONG:
            self.bad_at(wrong, 1, 0)
            self.bad_at(4, wrong, 0)
            self.bad_at(4, 2, wrong)
            self.bad_index(wrong, ())
            self.bad_index(wrong, (1,))

    def test_what_is_no_such_tuple(self):
        for subset in ((2, 1), (1, 1), (1, 2, 2), (4, 3), (0, 1), (0,), (-1,), (5,), (1, 5), (True, 2), (1, True), (False,),
                       ("1",), (None,), (1.0,), ((1,),)):
            self.bad_index(4, subset)
        for subset in ([1, 2], [], None, 1, "12", {1: 1}, {1}, range(1, 3), True):
            self.bad_index(4, subset)

    def test_asked_twice(self):
        self.assertEqual(subset_at(7, 3, 20), subset_at(7, 3, 20))
        self.assertEqual(subset_index(7, (2, 5, 6)), subset_index(7, (2, 5, 6)))


class Shares(unittest.TestCase):
    def test_all_ways(self):
        labels = (2, 5, 7, 9)
        self.assertEqual(shares(labels, 1, 0), [((2,), (5, 7, 9)), ((5,), (2, 7, 9)), ((7,), (2, 5, 9)), ((9,), (2, 5, 7))])
        self.assertEqual(shares(labels, 2, 1), [((2, 5), (7, 9)), ((2, 7), (5, 9)), ((2, 9), (5, 7))])
        self.assertEqual(shares(labels, 0, 0), [((), labels)])
        self.assertEqual(shares(labels, 4, 1), [(labels, ())])


if __name__ == "__main__":
    unittest.main()
