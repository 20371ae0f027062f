"""Promises 5.7, 5.8 and 5.11: sets without labels, counted by the places of their members."""

import itertools
import math
import random
import unittest

from samples import WRONG
from speciesmill.errors import BadCounts, BadPlace
from speciesmill.members import sets_from
from speciesmill.series import by_members


def places(counts):
    return [(size, index) for size in range(len(counts)) for index in range(counts[size])]


def by_size(counts, members, first):
    """For each size the number of sets of so many places, from a first one on."""
    allowed = [place for place in places(counts) if place >= first]
    found = [0] * len(counts)
    for chosen in itertools.combinations_with_replacement(allowed, members):
        size = sum(size for size, _ in chosen)
        if size < len(counts):
            found[size] += 1
    return found


class SetsFrom(unittest.TestCase):
    def test_all_sets_of_small_counts(self):
        source = random.Random(8)
        some = [[0, 1], [0, 2, 0], [0, 0, 3], [0, 1, 1, 1, 1, 1], [0, 3, 0, 2, 0, 1, 0], [0, 0, 2, 1, 0, 3, 0, 0, 1]]
        some.extend([[0] + [source.choice([0, 1, 1, 2, 3]) for _ in range(source.randint(2, 7))] for _ in range(25)])
        for counts in some:
            for first in places(counts):
                for members in range(min(len(counts), 5)):
                    found = [sets_from(counts, members, size, first) for size in range(len(counts))]
                    self.assertEqual(found, by_size(counts, members, first), (counts, members, first))

    def test_no_members_and_no_size(self):
        for counts in ([0, 1], [0, 2, 5, 1], [0, 0, 0, 4]):
            for first in places(counts):
                for size in range(len(counts)):
                    self.assertEqual(sets_from(counts, 0, size, first), 1 if size == 0 else 0)
                    self.assertEqual(sets_from(counts, size, 0, first), 1 if size == 0 else 0)

    def test_the_last_place(self):
        counts = [0, 2, 0, 3]
        self.assertEqual([sets_from(counts, 1, size, (3, 2)) for size in range(4)], [0, 0, 0, 1])
        self.assertEqual([sets_from(counts, 1, size, (1, 1)) for size in range(4)], [0, 1, 0, 3])
        self.assertEqual(sets_from(counts, 3, 3, (1, 1)), 1)
        self.assertEqual(sets_from(counts, 3, 3, (1, 0)), 4)

    def test_61_items(self):
        for counts in ([0] + [1] * 60, [0, 3] + [0] * 59, [0] + [2**size for size in range(60)], [0, 0] + [size % 3 for size in range(59)]):
            least = (next(size for size in range(61) if counts[size] > 0), 0)
            for members in (0, 1, 7, 30, 60):
                wanted = by_members(counts, "set", members, False)
                found = [sets_from(counts, members, size, least) for size in (17, 30, 59, 60)]
                self.assertEqual(found, [wanted[size] for size in (17, 30, 59, 60)])
        many = 10**40
        self.assertEqual(sets_from([0] * 20 + [many] + [0] * 40, 3, 60, (20, many - 5)), math.comb(7, 3))
        self.assertEqual(sets_from([0] * 20 + [many] + [0] * 40, 3, 60, (20, 0)), math.comb(many + 2, 3))

    def test_the_first_ones_are_left_out_one_after_the_other(self):
        counts = [0, 2, 3, 1, 0, 4]
        for members in range(6):
            for size in range(6):
                before = by_members(counts, "set", members, False)[size]
                for place in places(counts):
                    found = sets_from(counts, members, size, place)
                    self.assertLessEqual(found, before)
                    before = found

    def test_the_counts_stay_as_they_are(self):
        counts = [0, 2, 3, 1]
        self.assertEqual(sets_from(counts, 2, 3, (1, 1)), sets_from(counts, 2, 3, (1, 1)))
        self.assertEqual(counts, [0, 2, 3, 1])


class Errors(unittest.TestCase):
    def raises(self, error, *arguments):
        with self.assertRaises(error, msg=arguments):
            sets_from(*arguments)

    def test_counts_that_are_none(self):
        wrong = [None, 3, "01", (0, 1, 2), {0: 0, 1: 1}, [], [0, -1], [0, True], [0, None], [0, "1"], [0, 1.0], [0] + [1] * 61]
        for counts in wrong + [[1], [1, 1], [2, 0, 3], [False, 1]]:
            self.raises(BadCounts, counts, 1, 1, (1, 0))
            self.raises(BadCounts, counts, -1, None, [1, 0])

    def test_numbers_that_are_none(self):
        for wrong in (*WRONG, 4, 5, 10**20):
            self.raises(BadPlace, [0, 1, 1, 1], wrong, 1, (1, 0))
            self.raises(BadPlace, [0, 1, 1, 1], 1, wrong, (1, 0))

    def test_places_that_do_not_exist(self):
        for place in ((0, 0), (2, 0), (1, 2), (3, 1), (4, 0), (10**20, 0), (-1, 0), (-3, 0), (1, -1), (True, 0), (1, True),
                      (1, None), ("1", 0), (1.0, 0), (1, 0.0), (), (1,), (1, 0, 0), [1, 0], None, 1, "10", {1: 0}):
            self.raises(BadPlace, [0, 2, 0, 1], 1, 1, place)
        self.raises(BadPlace, [0], 0, 0, (0, 0))
        self.raises(BadPlace, [0, 0], 0, 0, (1, 0))


if __name__ == "__main__":
    unittest.main()
