"""Promises 3.1 to 3.4: counts from counts."""

import itertools
import math
import unittest

from speciesmill.errors import BadCounts
from speciesmill.series import by_members, pairs, rings, rows, sets, sets_undone

WORDS = ("row", "set", "ring")
COUNTS = ([0, 1, 0, 0, 0, 0], [0, 2, 1, 0, 3, 1], [0, 0, 1, 1, 0, 2], [0, 1, 1, 1, 1, 1], [0, 0, 0, 0, 0, 0], [0, 3, 0, 2, 0, 0])
BOUNDS = ((0, None), (1, None), (2, None), (0, 0), (0, 1), (1, 1), (2, 2), (1, 3), (0, 4), (3, 5), (6, 6), (40, None))


def function_of(word):
    return {"row": rows, "set": sets, "ring": rings}[word]


def places(counts):
    """A pair for each unlabelled structure of a kind."""
    return [(size, number) for size, many in enumerate(counts) for number in range(many)]


def tried(word, counts, members, size):
    """All unlabelled rows, sets or rings of so many members and a size, found by trying."""
    found = set()
    for row in itertools.product(places(counts), repeat=members):
        if sum(place[0] for place in row) == size:
            if word == "set":
                row = tuple(sorted(row))
            elif word == "ring":
                row = min(row[at:] + row[:at] for at in range(members))
            found.add(row)
    return len(found)


def labelled_row(counts, members):
    """The labelled counts of rows: all ways to give the members their labels."""
    made = [0] * len(counts)
    for row in itertools.product(range(len(counts)), repeat=members):
        size = sum(row)
        if size < len(counts):
            ways = math.factorial(size)
            for part in row:
                ways = ways // math.factorial(part) * counts[part]
            made[size] += ways
    return made


class Pairs(unittest.TestCase):
    def test_labelled(self):
        self.assertEqual(pairs([1, 1, 1, 1], [1, 1, 1, 1], True), [1, 2, 4, 8])
        self.assertEqual(pairs([0, 1, 0], [0, 1, 0], True), [0, 0, 2])
        self.assertEqual(pairs([1, 0, 2, 5], [3, 1, 1, 0], True), [3, 1, 7, 2 * 3 + 15])

    def test_unlabelled(self):
        self.assertEqual(pairs([1, 1, 1, 1], [1, 1, 1, 1], False), [1, 2, 3, 4])
        self.assertEqual(pairs([0, 1, 0], [0, 1, 0], False), [0, 0, 1])
        self.assertEqual(pairs([1, 0, 2, 5], [3, 1, 1, 0], False), [3, 1, 7, 17])

    def test_the_lengths(self):
        self.assertEqual(pairs([4], [5], True), [20])
        for labelled in (True, False):
            self.assertEqual(pairs([1] + [0] * 60, list(range(61)), labelled), list(range(61)))

    def test_great_numbers(self):
        self.assertEqual(pairs([0, 10**50], [10**50, 1], False), [0, 10**100])


class ByMembers(unittest.TestCase):
    def test_unlabelled_ones_by_trying(self):
        for counts in COUNTS:
            for word in WORDS:
                for members in range(1 if word == "ring" else 0, 7):
                    wanted = [tried(word, counts, members, size) if members else int(size == 0) for size in range(6)]
                    self.assertEqual(by_members(counts, word, members, False), wanted, (counts, word, members))

    def test_labelled_ones_by_trying(self):
        for counts in COUNTS:
            for members in range(0, 7):
                wanted = labelled_row(counts, members)
                self.assertEqual(by_members(counts, "row", members, True), wanted)
                many = math.factorial(members)
                self.assertEqual(by_members(counts, "set", members, True), [item // many for item in wanted])
                if members:
                    self.assertEqual(by_members(counts, "ring", members, True), [item // members for item in wanted])

    def test_members_of_size_0(self):
        for word in WORDS:
            for labelled in (True, False):
                self.assertEqual(by_members([2, 3, 4], word, 1, labelled), [2, 3, 4])
                with self.assertRaises(BadCounts):
                    by_members([1, 1], word, 2, labelled)
        self.assertEqual(by_members([2, 3, 4], "row", 0, True), [1, 0, 0])
        self.assertEqual(by_members([2, 3, 4], "set", 0, False), [1, 0, 0])

    def test_errors(self):
        for labelled in (True, False):
            for members in (-1, True, False, None, "1", 1.0):
                for word in WORDS:
                    with self.assertRaises(BadCounts):
                        by_members([0, 1], word, members, labelled)
            with self.assertRaises(BadCounts):
                by_members([0, 1], "ring", 0, labelled)

    def test_many_members(self):
        for word in WORDS:
            self.assertEqual(by_members([0, 5, 7], word, 10**30, True), [0, 0, 0])
            self.assertEqual(by_members([0, 5, 7], word, 3, False), [0, 0, 0])


class RowsSetsAndRings(unittest.TestCase):
    def test_they_are_the_sums_over_their_members(self):
        for counts in COUNTS:
            for word in WORDS:
                for labelled in (True, False):
                    single = {members: by_members(counts, word, members, labelled) for members in range(1, 7)}
                    single[0] = [1, 0, 0, 0, 0, 0]
                    for least, most in BOUNDS:
                        if word == "ring" and least == 0:
                            continue
                        last = 6 if most is None else most
                        wanted = [sum(single[many][size] for many in range(least, last + 1)) for size in range(6)]
                        self.assertEqual(function_of(word)(counts, least, most, labelled), wanted)

    def test_well_known_ones(self):
        ones = [0] + [1] * 6
        self.assertEqual(rows(ones, 0, None, False), [1, 1, 2, 4, 8, 16, 32])
        self.assertEqual(rows(ones, 0, None, True), [1, 1, 3, 13, 75, 541, 4683])
        self.assertEqual(sets(ones, 0, None, True), [1, 1, 2, 5, 15, 52, 203])
        self.assertEqual(sets(ones, 0, None, False), [1, 1, 2, 3, 5, 7, 11])
        self.assertEqual(rings([0, 1, 0, 0, 0], 1, None, True), [0, 1, 1, 2, 6])
        self.assertEqual(rings([0, 2, 0, 0, 0, 0, 0], 1, None, False), [0, 2, 3, 4, 6, 8, 14])
        self.assertEqual(sets([0, 2, 0, 0, 0], 0, None, False), [1, 2, 3, 4, 5])
        self.assertEqual(sets([0, 1, 0, 0, 0], 0, None, True), [1, 1, 1, 1, 1])

    def test_members_of_size_0_where_one_is_allowed(self):
        counts = [3, 1, 4]
        for labelled in (True, False):
            for function in (rows, sets):
                self.assertEqual(function(counts, 0, 1, labelled), [4, 1, 4])
                self.assertEqual(function(counts, 0, 0, labelled), [1, 0, 0])
            for function in (rows, sets, rings):
                self.assertEqual(function(counts, 1, 1, labelled), [3, 1, 4])

    def test_one_item(self):
        for labelled in (True, False):
            self.assertEqual(rows([0], 0, None, labelled), [1])
            self.assertEqual(sets([0], 1, None, labelled), [0])
            self.assertEqual(rings([0], 1, None, labelled), [0])

    def test_sixty_one_items(self):
        atom = [0, 1] + [0] * 59
        self.assertEqual(rows(atom, 0, None, False), [1] * 61)
        self.assertEqual(rows(atom, 0, None, True), [math.factorial(size) for size in range(61)])
        self.assertEqual(sets([0] + [1] * 60, 0, None, False)[60], 966467)
        self.assertEqual(rings(atom, 1, None, True)[60], math.factorial(59))
        self.assertEqual(sets(atom, 60, 60, True), [0] * 60 + [1])
        necklaces = sum(2 ** math.gcd(60, turn) for turn in range(60)) // 60
        self.assertEqual(rings([0, 2] + [0] * 59, 1, None, False)[60], necklaces)
        self.assertEqual(sets([0, 2] + [0] * 59, 0, None, False)[60], 61)

    def test_bounds_of_any_size(self):
        for labelled in (True, False):
            self.assertEqual(rows([0, 1, 1], 0, 10**20, labelled), rows([0, 1, 1], 0, None, labelled))
            self.assertEqual(sets([0, 1, 1], 10**20, None, labelled), [0, 0, 0])
            self.assertEqual(rings([0, 1, 1], 1, 31, labelled), rings([0, 1, 1], 1, None, labelled))


class Errors(unittest.TestCase):
    def bad(self, counts, least=0, most=None):
        for labelled in (True, False):
            for function in (rows, sets, rings):
                with self.assertRaises(BadCounts):
                    function(counts, least, most, labelled)

    def test_lists_that_are_no_counts(self):
        for counts in ([], [0, -1], [0, True], [False, 1], [0, None], [0, 1.0], [0, "1"], [0, [1]], [0] * 62, [0] * 100):
            self.bad(counts)
            self.bad(counts, 1, 1)
            for labelled in (True, False):
                for first, second in ((counts, [0] * len(counts)), ([0] * len(counts), counts)):
                    with self.assertRaises(BadCounts):
                        pairs(first, second, labelled)
                with self.assertRaises(BadCounts):
                    by_members(counts, "row", 1, labelled)
                with self.assertRaises(BadCounts):
                    sets_undone(counts, labelled)

    def test_unlike_lengths(self):
        for labelled in (True, False):
            for first, second in (([0], [0, 1]), ([0] * 5, [0] * 4), ([0] * 61, [0] * 60)):
                with self.assertRaises(BadCounts):
                    pairs(first, second, labelled)

    def test_bounds_that_are_none(self):
        for least, most in ((-1, None), (-1, 3), (2, 1), (1, 0), (True, None), (1, True), (0, False), (None, 3), (1, -1)):
            self.bad([0, 1, 1], least, most)
        for least, most in ((1.0, 2), (1, 2.0), ("1", None), (1, "2"), ((), None)):
            self.bad([0, 1, 1], least, most)

    def test_rings_have_members(self):
        for labelled in (True, False):
            for most in (None, 0, 1, 5):
                with self.assertRaises(BadCounts):
                    rings([0, 1], 0, most, labelled)

    def test_members_of_size_0(self):
        for least, most in ((0, None), (1, None), (0, 2), (1, 2), (2, 2), (5, None)):
            self.bad([1, 1], least, most)
            self.bad([7], least, most)

    def test_arguments_stay_as_they_are(self):
        counts = [0, 2, 1, 3]
        for labelled in (True, False):
            for function in (rows, sets, rings):
                made = function(counts, 1, 1, labelled)
                self.assertEqual(made, counts)
                made.append(5)
                function(counts, 1, None, labelled).clear()
                self.assertEqual(counts, [0, 2, 1, 3])
            pairs(counts, counts, labelled).clear()
            by_members(counts, "set", 1, labelled).append(2)
            self.assertEqual(counts, [0, 2, 1, 3])
            begun = [1, 2, 1, 3]
            sets_undone(begun, labelled).append(2)
            self.assertEqual(begun, [1, 2, 1, 3])


def multisets(counts):
    """The sets without labels of a kind with numbers that may be below 0: a product of powers of 1 - x to the size."""
    made = [1] + [0] * (len(counts) - 1)
    for size in range(1, len(counts)):
        for _ in range(abs(counts[size])):
            if counts[size] > 0:
                for at in range(size, len(made)):
                    made[at] += made[at - size]
            else:
                for at in range(len(made) - 1, size - 1, -1):
                    made[at] -= made[at - size]
    return made


def labelled_sets(counts):
    """The labelled sets of a kind with numbers that may be below 0, by the member with the least label."""
    made = [1]
    for size in range(1, len(counts)):
        made.append(sum(math.comb(size - 1, at - 1) * counts[at] * made[size - at] for at in range(1, size + 1)))
    return made


class SetsUndone(unittest.TestCase):
    def test_back_from_sets(self):
        for counts in COUNTS:
            for labelled in (True, False):
                self.assertEqual(sets_undone(sets(counts, 0, None, labelled), labelled), counts)
        counts = [0] + [(7 * size) % 5 for size in range(1, 61)]
        for labelled in (True, False):
            self.assertEqual(sets_undone(sets(counts, 0, None, labelled), labelled), counts)

    def test_well_known_ones(self):
        self.assertEqual(sets_undone([1, 1, 2, 5, 15, 52], True), [0, 1, 1, 1, 1, 1])
        self.assertEqual(sets_undone([1, 1, 2, 3, 5, 7], False), [0, 1, 1, 1, 1, 1])
        self.assertEqual(sets_undone([1, 1, 2, 4, 11, 34], False), [0, 1, 1, 2, 6, 21])
        self.assertEqual(sets_undone([1, 1, 2, 8, 64, 1024], True), [0, 1, 1, 4, 38, 728])
        self.assertEqual(sets_undone([1], True), [0])
        self.assertEqual(sets_undone([1], False), [0])

    def test_numbers_below_0(self):
        self.assertEqual(sets_undone([1, 1, 0], False), [0, 1, -1])
        self.assertEqual(sets_undone([1, 1, 0], True), [0, 1, -1])
        self.assertEqual(sets_undone([1, 0, 0, 0], True), [0, 0, 0, 0])
        self.assertEqual(sets_undone([1, 3, 1, 0], False), [0, 3, -5, 5])
        for counts in itertools.product(range(4), repeat=4):
            counts = [1] + list(counts)
            self.assertEqual(multisets(sets_undone(counts, False)), counts)
            self.assertEqual(labelled_sets(sets_undone(counts, True)), counts)

    def test_counts_that_do_not_begin_with_1(self):
        for counts in ([0], [2], [0, 1], [2, 1], [5, 0, 0], [10**30]):
            for labelled in (True, False):
                with self.assertRaises(BadCounts):
                    sets_undone(counts, labelled)


if __name__ == "__main__":
    unittest.main()
