"""Promises 5.12 to 5.14, and their part of the example 5.15: structures drawn by digits."""

import itertools
import random
import unittest
from fractions import Fraction

import brute
from samples import ATOM, KINDS, ONE, WORDS, WRONG
from speciesmill.draw import draw, draws, index_by_digits, telling_rows
from speciesmill.errors import BadDigits, BadIndex, FewDigits, NoStructure, NoSuchName, NotFounded, TooGreat
from speciesmill.listing import labelled_list, unlabelled_list
from speciesmill.rank import structure_at
from speciesmill.counts import labelled_counts, unlabelled_counts
from speciesmill.spec import Spec, known

ROOTED = known("rooted")
BROKEN = Spec({"A": ("name", "A")})
WRONG_DIGITS = (None, "01", "", b"01", (0, 1), (), {}, {0: 1}, 1, True, [2], [-1], [True], [0, False], ["0"], [None], [0.0],
                [1.0], [[0]], [10**30], [0, 1, 2], [1, 1, 1, 1, 1, 1, 1, 1, True], range(2))


def by_hand(count, digits):
    """The rule, step by step as the document tells it."""
    v, c = 1, 0
    left = list(digits)
    while True:
        if v < count:
            if not left:
                return None
            e = left.pop(0)
            v, c = 2 * v, 2 * c + e
        elif c < count:
            return (c, len(digits) - len(left))
        else:
            v, c = v - count, c - count


def rows_of(length):
    return [list(row) for row in itertools.product((0, 1), repeat=length)]


class Indexes(unittest.TestCase):
    def test_all_short_rows(self):
        for count in range(1, 41):
            for length in range(7):
                for digits in rows_of(length):
                    self.assertEqual(index_by_digits(count, digits), by_hand(count, digits), (count, digits))

    def test_long_rows_and_counts_of_any_size(self):
        source = random.Random(12)
        for _ in range(400):
            count = source.randint(1, 2 ** source.randint(1, 220))
            digits = [source.randint(0, 1) for _ in range(source.randint(0, 200))]
            self.assertEqual(index_by_digits(count, digits), by_hand(count, digits))
        for count in (2**100, 2**100 - 1, 2**100 + 1, 10**3000):
            digits = [source.randint(0, 1) for _ in range(20000)]
            self.assertEqual(index_by_digits(count, digits), by_hand(count, digits))
            for same in ([0] * 20000, [1] * 20000):
                self.assertEqual(index_by_digits(count, same), by_hand(count, same))

    def test_one_index_is_told_without_digits(self):
        for digits in ([], [0], [1, 1, 1]):
            self.assertEqual(index_by_digits(1, digits), (0, 0))

    def test_too_few_digits(self):
        self.assertIsNone(index_by_digits(2, []))
        self.assertIsNone(index_by_digits(3, [1]))
        self.assertIsNone(index_by_digits(3, [1, 1]))
        self.assertIsNone(index_by_digits(3, [1] * 1001))
        self.assertIsNone(index_by_digits(2**200, [0] * 199))
        self.assertEqual(index_by_digits(2**200, [0] * 200), (0, 200))

    def test_digits_that_follow_are_not_read(self):
        self.assertEqual(index_by_digits(3, [1, 1, 0, 1]), (1, 4))
        for length in range(5):
            for more in rows_of(length):
                self.assertEqual(index_by_digits(3, [1, 1, 0, 1] + more), (1, 4))
                self.assertEqual(index_by_digits(2, [1] + more), (1, 1))

    def test_the_digits_stay_as_they_are(self):
        digits = [1, 1, 0, 1, 0]
        self.assertEqual(index_by_digits(3, digits), index_by_digits(3, digits))
        self.assertEqual(digits, [1, 1, 0, 1, 0])

    def test_what_are_no_digits(self):
        for digits in WRONG_DIGITS:
            # The wrong counts stand behind: the digits are asked first.
            for count in (1, 2, 3, 10**30, 0, *WRONG):
                with self.assertRaises(BadDigits, msg=(count, digits)):
                    index_by_digits(count, digits)

    def test_what_is_wrong_behind_the_digits_that_are_read(self):
        for wrong in (2, -1, True, "0", None, [0]):
            with self.assertRaises(BadDigits):
                index_by_digits(2, [0, wrong])
            with self.assertRaises(BadDigits):
                index_by_digits(1, [wrong])
            with self.assertRaises(BadDigits):
                index_by_digits(3, [1, 1, 0, 1] + [0] * 50 + [wrong])

    def test_what_is_no_count(self):
        for count in (0, -10**30, *WRONG):
            for digits in ([], [0], [1, 1, 0, 1]):
                with self.assertRaises(BadIndex, msg=count):
                    index_by_digits(count, digits)


class Rows(unittest.TestCase):
    def test_against_all_rows(self):
        for count in range(1, 20):
            told = telling_rows(count, 9)
            for length in range(10):
                found = [index for index, read in filter(None, (index_by_digits(count, row) for row in rows_of(length))) if read == length]
                self.assertEqual([found.count(index) for index in range(count)], [told[length]] * count)

    def test_digits_of_the_part(self):
        for count in (1, 2, 3, 4, 5, 7, 8, 12, 64, 100, 2**40, 2**40 + 1, 10**50, 3**200):
            told = telling_rows(count, 300)
            self.assertEqual(len(told), 301)
            for length, many in enumerate(told):
                self.assertEqual(many, int(Fraction(2**length, count)) % 2)

    def test_known_rows(self):
        self.assertEqual(telling_rows(1, 4), [1, 0, 0, 0, 0])
        self.assertEqual(telling_rows(2, 4), [0, 1, 0, 0, 0])
        self.assertEqual(telling_rows(8, 4), [0, 0, 0, 1, 0])
        self.assertEqual(telling_rows(3, 0), [0])
        self.assertEqual(telling_rows(1, 0), [1])
        self.assertEqual(telling_rows(2**1000, 1000), [0] * 1000 + [1])
        self.assertEqual(len(telling_rows(3, 1000)), 1001)

    def test_what_is_returned_is_new(self):
        first = telling_rows(3, 6)
        first.clear()
        self.assertEqual(telling_rows(3, 6), [0, 0, 1, 0, 1, 0, 1])

    def test_wrong_arguments(self):
        for count in (0, -5, *WRONG):
            for most in (0, 5, 1000, 1001):
                with self.assertRaises(BadIndex):
                    telling_rows(count, most)
        for most in (1001, 10**30, *WRONG):
            with self.assertRaises(BadIndex):
                telling_rows(3, most)


class Drawing(unittest.TestCase):
    def same(self, spec, name, size, labelled, source):
        """Whether drawing is to draw indexes of the list, one behind the other."""
        found = (labelled_list if labelled else unlabelled_list)(spec, name, size)
        digits = [source.randint(0, 1) for _ in range(80)]
        if not found:
            self.assertEqual(draws(spec, name, size, 0, digits, labelled), ([], 0))
            for many in (1, 5):
                with self.assertRaises(NoStructure):
                    draws(spec, name, size, many, digits, labelled)
            with self.assertRaises(NoStructure):
                draw(spec, name, size, digits, labelled)
            return
        structures, read = [], 0
        self.assertEqual(draws(spec, name, size, 0, digits, labelled), ([], 0))
        for drawn in range(12):
            told = by_hand(len(found), digits[read:])
            if told is None:
                with self.assertRaises(FewDigits) as caught:
                    draws(spec, name, size, 12, digits, labelled)
                self.assertEqual(caught.exception.drawn, drawn)
                break
            structures.append(found[told[0]])
            read += told[1]
            self.assertEqual(draws(spec, name, size, drawn + 1, digits, labelled), (structures, read))
        self.assertEqual(draw(spec, name, size, digits, labelled), draw(spec, name, size, digits, labelled))
        index, read = by_hand(len(found), digits)
        self.assertEqual(draw(spec, name, size, digits, labelled), (found[index], read))

    def test_each_kind_of_expression(self):
        source = random.Random(1)
        for expression in KINDS:
            spec = Spec({"A": expression})
            for size in range(5):
                for labelled in (True, False):
                    self.same(spec, "A", size, labelled, source)

    def test_known_specifications(self):
        source = random.Random(2)
        for word in WORDS:
            spec = known(word)
            for name in spec.names():
                for size in range(5):
                    for labelled in (True, False):
                        self.same(spec, name, size, labelled, source)

    def test_mixed_specifications(self):
        source = random.Random(3)
        for spec in brute.random_specs(77, 25):
            for name in spec.names():
                for size in range(4):
                    for labelled in (True, False):
                        self.same(spec, name, size, labelled, source)

    def test_great_sizes(self):
        source = random.Random(4)
        for word in WORDS:
            spec = known(word)
            name = spec.names()[0]
            for labelled, counts in ((True, labelled_counts), (False, unlabelled_counts)):
                many = counts(spec, name, 30)[30]
                digits = [source.randint(0, 1) for _ in range(3000)]
                index, read = by_hand(many, digits)
                structure = structure_at(spec, name, 30, index, labelled)
                self.assertEqual(draw(spec, name, 30, digits, labelled), (structure, read))
                second, more = by_hand(many, digits[read:])
                both = [structure, structure_at(spec, name, 30, second, labelled)]
                self.assertEqual(draws(spec, name, 30, 2, digits, labelled), (both, read + more))

    def test_the_second_one_reads_the_digits_behind(self):
        # 9 labelled trees: each of them takes 4 digits if these are not 9 or more.
        found = labelled_list(ROOTED, "R", 3)
        self.assertEqual(draws(ROOTED, "R", 3, 2, [0, 1, 0, 1, 1, 0, 0, 0], True), ([found[5], found[8]], 8))
        self.assertEqual(draws(ROOTED, "R", 3, 1, [0, 1, 0, 1, 1, 0, 0, 0], True), ([found[5]], 4))
        self.assertEqual(draw(ROOTED, "R", 3, [1, 0, 0, 0, 1, 1], True), (found[8], 4))

    def test_one_structure_alone_needs_no_digits(self):
        only = ("and", ("atom", 1), ("set", ()))
        self.assertEqual(draw(ROOTED, "R", 1, [], True), (only, 0))
        self.assertEqual(draw(ROOTED, "R", 1, [1, 0], True), (only, 0))
        self.assertEqual(draws(ROOTED, "R", 1, 1000, [], True), ([only] * 1000, 0))
        self.assertEqual(draws(ROOTED, "R", 1, 3, [1], False), ([("and", ATOM, ("set", ()))] * 3, 0))

    def test_how_many(self):
        structures, read = draws(ROOTED, "R", 3, 1000, [0, 1] * 500, False)
        self.assertEqual((structures, read), (unlabelled_list(ROOTED, "R", 3) * 500, 1000))
        for digits in ([], [1]):
            self.assertEqual(draws(ROOTED, "R", 3, 0, digits, False), ([], 0))
            self.assertEqual(draws(ROOTED, "R", 0, 0, digits, False), ([], 0))
        for many in (1001, 10**30, *WRONG):
            with self.assertRaises(BadIndex):
                draws(ROOTED, "R", 3, many, [0] * 5000, False)

    def test_arguments_stay_and_results_are_new(self):
        digits = [1, 0, 1, 1, 0]
        first, _ = draws(ROOTED, "R", 3, 2, digits, False)
        first.clear()
        self.assertEqual(draws(ROOTED, "R", 3, 2, digits, False), (unlabelled_list(ROOTED, "R", 3)[::-1], 2))
        self.assertEqual(digits, [1, 0, 1, 1, 0])

    def test_too_few_digits(self):
        def drawn(many, digits, size=3, labelled=True):
            with self.assertRaises(FewDigits) as caught:
                draws(ROOTED, "R", size, many, digits, labelled)
            self.assertIs(type(caught.exception.drawn), int)
            return caught.exception.drawn

        self.assertEqual(drawn(1, []), 0)
        self.assertEqual(drawn(5, [0, 0, 0]), 0)
        self.assertEqual(drawn(2, [0, 0, 0, 0, 1, 1]), 1)
        self.assertEqual(drawn(2, [0, 0, 0, 0, 1, 1, 1, 1]), 1)
        self.assertEqual(drawn(1000, [0] * 4 * 999), 999)
        self.assertEqual(drawn(1000, [1] * 999, 3, False), 999)
        self.assertEqual(len(draws(ROOTED, "R", 3, 1000, [0] * 4000, True)[0]), 1000)
        for digits in ([], [1], [1, 1, 1], [1] * 50):
            with self.assertRaises(FewDigits) as caught:
                draw(ROOTED, "R", 3, digits, True)
            self.assertEqual(caught.exception.drawn, 0)


class ErrorsInOrder(unittest.TestCase):
    def raises(self, error, spec, name, size, many, digits):
        for labelled in (True, False):
            with self.assertRaises(error):
                draws(spec, name, size, many, digits, labelled)
            if many != 1001:
                with self.assertRaises(error):
                    draw(spec, name, size, digits, labelled)

    def test_each_one_before_those_that_follow(self):
        for digits in ([], (0, 1)):
            for many in (1, 1001):
                for size in (0, 3, 31):
                    for name in ("A", "X", None):
                        self.raises(NotFounded, BROKEN, name, size, many, digits)
                    self.raises(NoSuchName, ROOTED, "X", size, many, digits)
                    self.raises(NoSuchName, ROOTED, None, size, many, digits)
                for size in (31, 10**20, *WRONG):
                    self.raises(TooGreat, ROOTED, "R", size, many, digits)
            for size in (0, 3):
                for many in (1001, *WRONG):
                    with self.assertRaises(BadIndex):
                        draws(ROOTED, "R", size, many, digits, True)
        for digits in WRONG_DIGITS:
            self.raises(BadDigits, ROOTED, "R", 0, 1, digits)
            self.raises(BadDigits, ROOTED, "R", 3, 1, digits)
            with self.assertRaises(BadDigits):
                draws(ROOTED, "R", 0, 0, digits, True)
        for digits in ([], [0] * 20):
            self.raises(NoStructure, ROOTED, "R", 0, 1, digits)
            self.raises(NoStructure, Spec({"A": ONE}), "A", 1, 1, digits)
        self.raises(FewDigits, ROOTED, "R", 3, 1, [])


class TheExample(unittest.TestCase):
    def test_digits(self):
        self.assertEqual(index_by_digits(3, [1, 1, 0, 1]), (1, 4))
        self.assertIsNone(index_by_digits(3, [1, 1, 0]))
        self.assertEqual(telling_rows(3, 6), [0, 0, 1, 0, 1, 0, 1])


if __name__ == "__main__":
    unittest.main()
