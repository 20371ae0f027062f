"""Promises 6.5 and 6.6, and their part of the example 6.10: unlabelled structures, also with colours."""

import itertools
import unittest

import brute
from samples import ATOM, KINDS, ONE, WORDS, WRONG, numbers
from speciesmill.burnside import coloured, inventory, orbits
from speciesmill.counts import unlabelled_counts
from speciesmill.errors import BadShape, NoSuchName, NotFounded, TooGreat
from speciesmill.spec import Spec, known

ROOTED = known("rooted")
BROKEN = Spec({"A": ("name", "A")})
RING = Spec({"N": ("ring", ATOM, 1, None)})
NO_CONTENTS = (None, 2, "", "22", [], [2, 2], {}, (-1,), (3, -1), (True,), (2, False), (1.0,), ("1",), (None,), ((1,),), ([1],), (20, True), (20, -1))


class Orbits(unittest.TestCase):
    def test_known_specifications(self):
        for word in WORDS:
            spec = known(word)
            for name in spec.names():
                self.assertEqual([orbits(spec, name, n) for n in range(11)], unlabelled_counts(spec, name, 10), (word, name))

    def test_each_kind_of_expression(self):
        for expression in KINDS:
            spec = Spec({"A": expression})
            self.assertEqual([orbits(spec, "A", n) for n in range(9)], unlabelled_counts(spec, "A", 8), expression)

    def test_mixed_specifications(self):
        for spec in brute.random_specs(65, 60):
            for name in spec.names():
                self.assertEqual([orbits(spec, name, n) for n in range(7)], unlabelled_counts(spec, name, 6))


class Colours(unittest.TestCase):
    def same(self, spec, name, size, colours):
        found = brute.coloured(spec, ("name", name), size, colours)
        self.assertEqual(coloured(spec, name, size, colours), sum(found.values()), (spec.expression(name), size, colours))
        for contents in itertools.product(range(size + 1), repeat=colours):
            if sum(contents) == size:
                self.assertEqual(inventory(spec, name, contents), found.get(contents, 0), (spec.expression(name), contents))

    def test_each_kind_of_expression(self):
        for expression in KINDS:
            spec = Spec({"A": expression})
            for size in range(4):
                for colours in (0, 1, 2):
                    self.same(spec, "A", size, colours)

    def test_known_specifications(self):
        for word in WORDS:
            spec = known(word)
            for size in range(4):
                for colours in (0, 1, 2, 3):
                    self.same(spec, spec.names()[0], size, colours)
        self.same(RING, "N", 6, 2)
        self.same(RING, "N", 5, 3)
        self.same(ROOTED, "R", 4, 2)
        self.same(known("partitions"), "P", 5, 2)

    def test_one_colour_and_none(self):
        for word in WORDS:
            spec = known(word)
            name = spec.names()[0]
            for n in range(11):
                self.assertEqual(coloured(spec, name, n, 1), orbits(spec, name, n))
                self.assertEqual(coloured(spec, name, n, 0), orbits(spec, name, 0) if n == 0 else 0)
                self.assertEqual(inventory(spec, name, (n,)), orbits(spec, name, n))

    def test_many_colours(self):
        # A row of n atoms has all colourings, a set of 2 atoms all pairs with and without two alike.
        rows = Spec({"A": ("row", ATOM, 0, None)})
        sets = Spec({"A": ("set", ATOM, 0, None)})
        for colours in (7, 100, 10**30):
            self.assertEqual(coloured(rows, "A", 10, colours), colours**10)
            self.assertEqual(coloured(sets, "A", 2, colours), colours * (colours + 1) // 2)
            self.assertEqual(coloured(RING, "N", 3, colours), (colours**3 + 2 * colours) // 3)

    def test_all_contents_add_up(self):
        for word in WORDS:
            spec = known(word)
            name = spec.names()[0]
            for n, colours in ((0, 3), (5, 2), (5, 3), (10, 2), (6, 4)):
                contents = [row for row in itertools.product(range(n + 1), repeat=colours) if sum(row) == n]
                self.assertEqual(sum(inventory(spec, name, row) for row in contents), coloured(spec, name, n, colours))


class Contents(unittest.TestCase):
    def test_zeros_do_not_matter(self):
        for contents in ((2, 3), (0, 2, 3), (2, 0, 3), (2, 3, 0), (0, 0, 2, 0, 3, 0), (3, 2), (2, 3) + (0,) * 500):
            self.assertEqual(inventory(ROOTED, "R", contents), inventory(ROOTED, "R", (2, 3)))

    def test_no_atoms(self):
        for spec, many in ((ROOTED, 0), (Spec({"R": ONE}), 1), (Spec({"R": ("set", ATOM, 0, None)}), 1)):
            for contents in ((), (0,), (0, 0, 0)):
                self.assertEqual(inventory(spec, "R", contents), many)

    def test_all_colours_different(self):
        # Each atom has a colour of its own: as many as labelled structures.
        self.assertEqual(inventory(ROOTED, "R", (1,) * 6), 6**5)
        self.assertEqual(inventory(known("maps"), "M", (1,) * 5), 5**5)
        self.assertEqual(inventory(known("partitions"), "P", (1,) * 10), 115975)

    def test_ten_and_eleven(self):
        sets = Spec({"A": ("set", ATOM, 0, None)})
        self.assertEqual(inventory(sets, "A", (4, 0, 6)), 1)
        self.assertEqual(inventory(sets, "A", (10,)), 1)
        for contents in ((11,), (5, 6), (1,) * 11, (10, 0, 1), (10**30,)):
            with self.assertRaises(TooGreat):
                inventory(sets, "A", contents)

    def test_what_are_no_contents(self):
        for contents in NO_CONTENTS:
            with self.assertRaises(BadShape, msg=contents):
                inventory(ROOTED, "R", contents)


class Errors(unittest.TestCase):
    def raises(self, error, function, *arguments):
        with self.assertRaises(error, msg=(function, arguments)):
            function(*arguments)

    def test_in_their_order(self):
        for wrong in (4, 11, *WRONG):
            for error, spec, name in ((NotFounded, BROKEN, "A"), (NotFounded, BROKEN, "X"), (NotFounded, BROKEN, None), (NoSuchName, ROOTED, "X"),
                                      (NoSuchName, ROOTED, None)):
                self.raises(error, orbits, spec, name, wrong)
                self.raises(error, coloured, spec, name, wrong, 2)
                for contents in ((2, 2), (11,), *NO_CONTENTS):
                    self.raises(error, inventory, spec, name, contents)
        for wrong in WRONG:
            self.raises(BadShape, orbits, ROOTED, "R", wrong)
            self.raises(BadShape, coloured, ROOTED, "R", wrong, 2)
        for n in (11, 21, 10**30):
            self.raises(TooGreat, orbits, ROOTED, "R", n)
            self.raises(TooGreat, coloured, ROOTED, "R", n, 2)
            self.raises(TooGreat, coloured, ROOTED, "R", n, 0)


class TheExample(unittest.TestCase):
    def test_necklaces_without_colours(self):
        self.assertEqual(orbits(RING, "N", 4), 1)
        self.assertEqual(coloured(RING, "N", 4, 2), 6)
        self.assertEqual(inventory(RING, "N", (2, 2)), 2)
        self.assertEqual(len(brute.groups(RING, ("name", "N"), len(numbers(4)))), 1)


if __name__ == "__main__":
    unittest.main()
