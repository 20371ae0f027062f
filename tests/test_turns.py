"""Promises 5.7, 5.9, 5.10 and 5.11, and their part of the example 5.15: rings without labels, counted by their turns."""

import itertools
import random
import unittest

from samples import WRONG
from speciesmill.errors import BadCounts, BadPlace
from speciesmill.series import by_members
from speciesmill.turns import rings_before, turns_from


def places(counts):
    return [(size, index) for size in range(len(counts)) for index in range(counts[size])]


def turns(row):
    return [row[at:] + row[:at] for at in range(len(row))]


def size_of(row):
    return sum(size for size, _ in row)


class Small(unittest.TestCase):
    def same(self, counts, row, rows):
        """Compares with rows, listed, of all sizes of the counts."""
        for size in range(len(counts)):
            fitting = [one for one in rows if size_of(one) == size]
            least = [min(turns(one)) for one in fitting]
            self.assertEqual(turns_from(counts, row, size), sum(1 for one in least if one >= row), (counts, row, size))
            self.assertEqual(rings_before(counts, row, size), len({one for one in least if one < row}), (counts, row, size))

    def test_the_example(self):
        row = ((1, 0), (1, 1))
        self.assertEqual(turns_from([0, 2, 0], row, 2), 3)
        self.assertEqual(rings_before([0, 2, 0], row, 2), 1)

    def test_all_rows_of_few_places(self):
        for counts in ([0, 2, 0, 0, 0], [0, 1, 1, 0, 0], [0, 3, 0, 0], [0, 1, 0, 2, 0, 0, 0], [0, 0, 2, 0, 1, 0, 0, 0, 0]):
            for members in range(1, 5):
                rows = list(itertools.product(places(counts), repeat=members))
                for row in rows:
                    self.same(counts, row, rows)

    def test_rows_of_two_sorts_of_places(self):
        counts = [0, 1, 1] + [0] * 10
        for members in (5, 6, 8):
            rows = list(itertools.product(places(counts), repeat=members))
            for row in rows[::members - 4]:
                self.same(counts, row, rows)

    def test_other_counts(self):
        source = random.Random(4)
        for _ in range(120):
            counts = [0] + [source.choice([0, 1, 1, 2]) for _ in range(source.randint(2, 8))]
            members = source.randint(1, 4)
            there = places(counts)
            if there and len(there) <= 7:
                rows = list(itertools.product(there, repeat=members))
                row = source.choice(rows)
                self.same(counts, row, rows)
                self.same(counts, min(turns(row)), rows)
                self.same(counts, (row[0],) * members, rows)

    def test_rows_whose_begin_comes_again(self):
        a, b, c = (1, 0), (1, 1), (2, 0)
        counts = [0, 2, 1, 0, 0, 0, 0, 0, 0]
        rows = list(itertools.product((a, b, c), repeat=6))
        for row in ((a, b, a, b, a, b), (a, a, b, a, a, b), (a, a, b, a, a, a), (a, b, a, b, a, c), (a, a, a, a, a, a), (a, b, a, a, b, a),
                    (c, c, c, c, c, c), (b, a, b, a, b, a), (c, a, c, a, b, a), (b, b, a, b, b, a), (a, a, b, a, a, c),
                    (a, c, a, b, a, c), (b, a, b, b, b, b), (c, a, c, c, c, c)):
            self.same(counts, row, rows)

    def test_one_place(self):
        counts = [0, 2, 0, 3]
        for at, place in enumerate(places(counts)):
            self.assertEqual([turns_from(counts, (place,), size) for size in range(4)],
                             [0, max(0, 2 - at), 0, 3 if at < 2 else 5 - at])
            self.assertEqual([rings_before(counts, (place,), size) for size in range(4)], [0, min(at, 2), 0, max(0, at - 2)])


class Great(unittest.TestCase):
    def test_rows_up_to_30_places(self):
        counts = [0, 1, 1] + [0] * 58
        source = random.Random(6)
        for members, pairs in ((30, 2), (30, 0), (29, 2), (24, 3), (12, 6), (16, 4)):
            rows = []
            for chosen in itertools.combinations(range(members), pairs):
                rows.append(tuple((2, 0) if at in chosen else (1, 0) for at in range(members)))
            least = [min(turns(row)) for row in rows]
            wanted = source.sample(rows, min(3, len(rows))) + source.sample(least, min(3, len(rows)))
            wanted.extend([((1, 0),) * members, ((2, 0),) * members, ((1, 0), (2, 0)) * (members // 2) + ((2, 0),) * (members % 2)])
            for row in wanted:
                self.assertEqual(turns_from(counts, row, members + pairs), sum(1 for one in least if one >= row))
                self.assertEqual(rings_before(counts, row, members + pairs), len({one for one in least if one < row}))

    def test_the_last_row_and_the_first_one(self):
        counts = [0, 2] + [5] * 59
        for members in (1, 2, 6, 15, 30):
            rows = by_members(counts, "row", members, False)
            rings = by_members(counts, "ring", members, False)
            for size in (members, 30, 42, 60):
                first, last = ((1, 0),) * members, ((60, 4),) * members
                self.assertEqual((turns_from(counts, first, size), rings_before(counts, first, size)), (rows[size], 0))
                if size < 60 * members:
                    self.assertEqual((turns_from(counts, last, size), rings_before(counts, last, size)), (0, rings[size]))

    def test_rings_of_two_colours(self):
        # There are 35792568 rings of 30 members of two sorts.
        counts = [0, 2] + [0] * 29
        first, last = (1, 0), (1, 1)
        self.assertEqual(rings_before(counts, (last,) * 30, 30), 35792567)
        self.assertEqual(rings_before(counts, (first,) * 29 + (last,), 30), 1)
        self.assertEqual(rings_before(counts, (first,) * 30, 30), 0)
        self.assertEqual(rings_before(counts, (first, last) * 15, 30) + 1, rings_before(counts, (first, last) * 14 + (last, last), 30))

    def test_numbers_of_any_size(self):
        many = 10**40
        counts = [0, many, many]
        self.assertEqual(rings_before(counts, ((1, many - 1), (1, many - 1)), 2), many * (many + 1) // 2 - 1)
        self.assertEqual(turns_from(counts, ((1, 5), (1, 7)), 2), many**2 - 2 * 5 * many + 25 - 3)
        self.assertEqual(turns_from(counts, ((2, 5),), 2), many - 5)

    def test_the_arguments_stay_as_they_are(self):
        counts = [0, 2, 1, 0, 3]
        row = ((1, 1), (2, 0))
        for function in (turns_from, rings_before):
            self.assertEqual(function(counts, row, 3), function(counts, row, 3))
        self.assertEqual(counts, [0, 2, 1, 0, 3])


class Errors(unittest.TestCase):
    def raises(self, error, *arguments):
        for function in (turns_from, rings_before):
            with self.assertRaises(error, msg=arguments):
                function(*arguments)

    def test_counts_that_are_none(self):
        wrong = [None, 3, "01", (0, 1, 2), {0: 0, 1: 1}, [], [0, -1], [0, True], [0, None], [0, "1"], [0, 1.0], [0] + [1] * 61]
        for counts in wrong + [[1], [1, 1], [2, 0, 3], [False, 1]]:
            self.raises(BadCounts, counts, ((1, 0),), 1)
            self.raises(BadCounts, counts, (), -1)
            self.raises(BadCounts, counts, None, None)

    def test_sizes_that_are_none(self):
        for wrong in (*WRONG, 4, 10**20):
            self.raises(BadPlace, [0, 1, 1, 1], ((1, 0),), wrong)

    def test_places_that_do_not_exist(self):
        for place in ((0, 0), (2, 0), (1, 2), (3, 1), (4, 0), (10**20, 0), (-1, 0), (-3, 0), (1, -1), (True, 0), (1, True),
                      (1, None), ("1", 0), (1.0, 0), (1, 0.0), (), (1,), (1, 0, 0), [1, 0], None, 1, "10", {1: 0}):
            self.raises(BadPlace, [0, 2, 0, 1], (place,), 1)
            self.raises(BadPlace, [0, 2, 0, 1], ((1, 0), place), 2)
            self.raises(BadPlace, [0, 2, 0, 1], (place, (3, 0)), 3)

    def test_rows_that_are_none(self):
        for row in ((), [], [(1, 0)], None, 3, "ab", {(1, 0): 1}, ((1, 0),) * 31, (1, 0)):
            self.raises(BadPlace, [0, 2, 0, 1], row, 1)
        self.assertEqual(turns_from([0, 1] + [0] * 29, ((1, 0),) * 30, 30), 1)


if __name__ == "__main__":
    unittest.main()
