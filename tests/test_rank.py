"""Promises 5.1 to 5.4 and 5.6, and their part of the example 5.15: indexes of structures."""

import itertools
import math
import unittest

import brute
from samples import ATOM, EXAMPLE, KINDS, ONE, TWO, WORDS, WRONG, a, numbers, tree
from speciesmill.counts import counts_of, labelled_counts, unlabelled_counts
from speciesmill.erase import erased
from speciesmill.errors import BadCounts, BadIndex, BadLabels, BadStructure, NoSuchName, NotFounded, TooGreat
from speciesmill.listing import labelled_list, labelled_on, unlabelled_list, unlabelled_of
from speciesmill.rank import index_in, index_of, labelled_at, structure_at, unlabelled_at, window
from speciesmill.spec import Spec, known
from speciesmill.structure import is_structure, key_of, labels_of, size_of
from speciesmill.subsets import subset_index

PLAIN = Spec({"A": ATOM})
ROOTED = known("rooted")
# Rows, sets and rings of many members, also of members of which there are very many.
CROWDS = [
    (word, member, least, most)
    for word in ("row", "set", "ring")
    for member in (("name", "W"), ("name", "T"))
    for least, most in ((1, None), (2, 2), (9, 12))
]
CROWD = Spec({
    "W": ("and", ("or", TWO, ("or", TWO, TWO)), ("row", ("or", TWO, ("or", TWO, TWO)), 0, None)),
    "T": ("and", ATOM, ("set", ("name", "T"), 0, None)),
})


class AgainstLists(unittest.TestCase):
    def test_each_kind_of_expression(self):
        for expression in KINDS:
            for size in range(5):
                for labels in (numbers(size), tuple(range(4, 4 + 3 * size, 3))):
                    found = labelled_on(PLAIN, expression, labels)
                    step = len(found) // 40 + 1
                    for index, structure in list(enumerate(found))[::step]:
                        self.assertEqual(labelled_at(PLAIN, expression, labels, index), structure)
                        self.assertEqual(index_in(PLAIN, expression, structure), index)
                found = unlabelled_of(PLAIN, expression, size)
                for index, structure in enumerate(found):
                    self.assertEqual(unlabelled_at(PLAIN, expression, size, index), structure)
                    self.assertEqual(index_in(PLAIN, expression, structure), index)

    def test_members_of_few_sizes(self):
        for sizes in ((1, 3), (2, 3), (2, 5), (3, 4)):
            member = ("or", ("row", TWO, sizes[0], sizes[0]), ("row", ATOM, sizes[1], sizes[1]))
            for word in ("row", "set", "ring"):
                for size in range(11):
                    found = unlabelled_of(PLAIN, (word, member, 1, None), size)
                    for index in range(0, len(found), len(found) // 30 + 1):
                        self.assertEqual(unlabelled_at(PLAIN, (word, member, 1, None), size, index), found[index])
                        self.assertEqual(index_in(PLAIN, (word, member, 1, None), found[index]), index)

    def same(self, spec, most, most_unlabelled):
        for name in spec.names():
            for size in range(most_unlabelled + 1):
                for labelled in (True, False):
                    if labelled and size > most:
                        continue
                    found = (labelled_list if labelled else unlabelled_list)(spec, name, size)
                    self.assertEqual(window(spec, name, size, 0, min(1000, len(found) + 1), labelled), found[:1000])
                    for index in range(0, len(found), len(found) // 25 + 1):
                        self.assertEqual(structure_at(spec, name, size, index, labelled), found[index])
                        self.assertEqual(index_of(spec, name, found[index]), index)

    def test_known_specifications(self):
        for word in WORDS:
            self.same(known(word), 4, 6)

    def test_other_specifications(self):
        for spec in brute.random_specs(71, 80, 4) + brute.random_specs(72, 10, 8):
            self.same(spec, 3, 4)

    def test_size_0(self):
        spec = Spec({"A": ("row", ("or", ONE, ("or", ATOM, ONE)), 0, 1), "B": ("set", ATOM, 0, None)})
        found = [("row", ()), ("row", (("left", ONE),)), ("row", (("right", ("right", ONE)),))]
        for labelled in (True, False):
            self.assertEqual(window(spec, "A", 0, 0, 9, labelled), found)
            self.assertEqual(structure_at(spec, "B", 0, 0, labelled), ("set", ()))
            with self.assertRaises(BadIndex):
                structure_at(spec, "A", 0, 3, labelled)
        self.assertEqual([index_of(spec, "A", structure) for structure in found], [0, 1, 2])
        self.assertEqual(labelled_at(spec, ("name", "A"), (), 2), found[2])
        self.assertEqual(unlabelled_at(spec, ("name", "A"), 0, 1), found[1])

    def test_labels_other_than_the_first_numbers(self):
        self.assertEqual(index_of(ROOTED, "R", tree(20, tree(7), tree(10**30))), 3)
        self.assertEqual(index_in(ROOTED, ("name", "R"), tree(20, tree(7), tree(10**30))), 3)
        self.assertEqual(labelled_at(ROOTED, ("name", "R"), (7, 20, 10**30), 3), tree(20, tree(7), tree(10**30)))

    def test_window(self):
        for labelled, size in ((True, 4), (False, 7)):
            found = (labelled_list if labelled else unlabelled_list)(ROOTED, "R", size)
            many = len(found)
            for first, wanted in ((0, 5), (0, 1), (17, 4), (17, 0), (0, 0), (many - 3, 3), (many - 3, 4), (many - 1, 1000),
                                  (many, 1), (many, 0), (many + 5, 10), (10**30, 1000), (0, 1000)):
                self.assertEqual(window(ROOTED, "R", size, first, wanted, labelled), found[first:first + wanted])
        self.assertEqual(window(ROOTED, "R", 0, 0, 10, True), [])
        self.assertEqual(window(ROOTED, "R", 0, 4, 0, False), [])

    def test_what_is_returned_is_new(self):
        first = window(ROOTED, "R", 4, 3, 5, True)
        again = list(first)
        first.clear()
        self.assertEqual(window(ROOTED, "R", 4, 3, 5, True), again)
        self.assertEqual(structure_at(ROOTED, "R", 4, 7, True), structure_at(ROOTED, "R", 4, 7, True))
        self.assertEqual(index_of(ROOTED, "R", EXAMPLE), index_of(ROOTED, "R", EXAMPLE))


class Great(unittest.TestCase):
    def there_and_back(self, spec, name, size, labelled, indexes):
        """Whether structures with ascending indexes are structures, ascend, and have these indexes."""
        last = None
        for index in indexes:
            structure = structure_at(spec, name, size, index, labelled)
            self.assertTrue(is_structure(spec, ("name", name), structure, labelled))
            self.assertEqual(size_of(structure), size)
            self.assertEqual(labels_of(structure), numbers(size) if labelled else ())
            self.assertEqual(index_of(spec, name, structure), index)
            key = key_of(structure)
            self.assertTrue(last is None or last < key)
            last = key
        with self.assertRaises(BadIndex):
            structure_at(spec, name, size, counts_of(spec, ("name", name), size, labelled)[size], labelled)

    def test_known_specifications(self):
        for word in WORDS:
            spec = known(word)
            name = spec.names()[0]
            for size in (13, 30):
                for labelled, counts in ((True, labelled_counts), (False, unlabelled_counts)):
                    many = counts(spec, name, size)[size]
                    indexes = {0, 1, many // 3, many // 2, many // 2 + 1, many * 7 // 9, many - 2, many - 1}
                    self.there_and_back(spec, name, size, labelled, sorted(indexes))

    def test_many_members_and_large_counts(self):
        for expression in CROWDS:
            spec = Spec({"A": expression, "W": CROWD.expression("W"), "T": CROWD.expression("T")})
            for labelled in (True, False):
                many = counts_of(spec, ("name", "A"), 30, labelled)[30]
                self.there_and_back(spec, "A", 30, labelled, sorted({0, many // 3, many - 1}))

    def test_windows_of_great_sizes_ascend(self):
        for word in ("maps", "necklaces", "partitions", "rooted"):
            spec = known(word)
            name = spec.names()[0]
            for labelled in (True, False):
                many = counts_of(spec, ("name", name), 20, labelled)[20]
                for first in (0, many // 3, max(0, many - 60)):
                    keys = [key_of(structure) for structure in window(spec, name, 20, first, 60, labelled)]
                    self.assertEqual(len(keys), min(60, many - first))
                    self.assertTrue(all(keys[at] < keys[at + 1] for at in range(len(keys) - 1)))

    def test_deep_structures(self):
        wrapped = ("and", ATOM, ("set", ("name", "B"), 0, None))
        for _ in range(7):
            wrapped = ("or", ("none",), wrapped)
        equations = {name: ("or", ("none",), ("name", other)) for name, other in zip("BCDEFGHIJK", "CDEFGHIJKA")}
        spec = Spec({"A": wrapped, **equations})
        for labelled in (True, False):
            many = counts_of(spec, ("name", "A"), 30, labelled)[30]
            for index in (0, many // 2, many - 1):
                structure = structure_at(spec, "A", 30, index, labelled)
                self.assertEqual(index_of(spec, "A", structure), index)

    def test_places_of_pairs(self):
        trees, words = ("name", "T"), ("row", TWO, 0, None)
        spec = Spec({"T": ("and", ATOM, ("set", ("name", "T"), 0, None))})
        labels = (2, 3, 5, 8, 9)
        first = labelled_on(spec, trees, (3, 9))[1]
        second = labelled_on(spec, words, (2, 5, 8))[17]
        one, other = counts_of(spec, trees, 5, True), counts_of(spec, words, 5, True)
        before = sum(math.comb(5, many) * one[many] * other[5 - many] for many in range(2))
        share = subset_index(5, (2, 5))
        wanted = before + (share * one[2] + 1) * other[3] + 17
        self.assertEqual(index_in(spec, ("and", trees, words), ("and", first, second)), wanted)
        self.assertEqual(labelled_at(spec, ("and", trees, words), labels, wanted), ("and", first, second))
        first, second = unlabelled_of(spec, trees, 4)[2], unlabelled_of(spec, words, 3)[5]
        one, other = counts_of(spec, trees, 7, False), counts_of(spec, words, 7, False)
        wanted = sum(one[many] * other[7 - many] for many in range(4)) + 2 * other[3] + 5
        self.assertEqual(index_in(spec, ("and", trees, words), ("and", first, second)), wanted)

    def test_thirty_labels(self):
        labels = tuple(range(5, 65, 2))
        self.assertEqual(labelled_at(PLAIN, ("set", ATOM, 0, None), labels, 0), ("set", tuple(map(a, labels))))
        last = labelled_at(PLAIN, ("ring", ATOM, 1, None), labels, math.factorial(29) - 1)
        self.assertEqual(last, ("ring", (a(5), *map(a, reversed(labels[1:])))))
        self.assertEqual(index_in(PLAIN, ("ring", ATOM, 1, None), last), math.factorial(29) - 1)
        row = ("row", tuple(map(a, reversed(labels))))
        self.assertEqual(index_in(PLAIN, ("row", ATOM, 0, None), row), math.factorial(30) - 1)


class Errors(unittest.TestCase):
    def raises(self, error, function, *arguments):
        with self.assertRaises(error, msg=(function, arguments)):
            function(*arguments)

    def test_what_counts_raise_comes_first(self):
        broken = Spec({"A": ("name", "A")})
        missing, endless = ("name", "X"), ("set", ONE, 0, 2)
        for error, spec, name in ((NotFounded, broken, "A"), (NotFounded, broken, "X"), (NoSuchName, ROOTED, "X"), (NoSuchName, ROOTED, None)):
            for size, index in ((3, 0), (31, -1), (None, None)):
                self.raises(error, structure_at, spec, name, size, index, True)
                self.raises(error, window, spec, name, size, index, 1001, False)
                self.raises(error, index_of, spec, name, None)
            self.raises(error, index_of, spec, name, tree(*numbers(1)))
        for error, spec, expression in ((NotFounded, broken, ATOM), (NotFounded, broken, missing), (NotFounded, broken, endless),
                                        (NoSuchName, ROOTED, missing), (NoSuchName, ROOTED, ("and", endless, missing)),
                                        (BadCounts, ROOTED, endless), (BadCounts, ROOTED, ("or", endless, ATOM))):
            for labels in ((1, 2), (2, 1), None, numbers(31)):
                self.raises(error, labelled_at, spec, expression, labels, -1)
            for size in (2, 31, None):
                self.raises(error, unlabelled_at, spec, expression, size, -1)
            for value in (None, ATOM, ("right", a(1)), ("set", tuple(map(a, numbers(31))))):
                self.raises(error, index_in, spec, expression, value)

    def test_labels_that_are_none(self):
        for labels in ((2, 1), (1, 1), (0, 1), (-1,), (True,), (1, True), ("1",), (None,), (1.0,), [1, 2], None, 2, "12", {}, numbers(30) + (30,)):
            for index in (0, -1, None):
                self.raises(BadLabels, labelled_at, ROOTED, ("name", "R"), labels, index)
        self.raises(BadLabels, labelled_at, ROOTED, ("name", "R"), (2, 1) * 20, -1)

    def test_sizes(self):
        everything = ("set", ATOM, 0, None)
        for labelled in (True, False):
            for size in (31, 60, 10**20, *WRONG):
                self.raises(TooGreat, structure_at, ROOTED, "R", size, -1, labelled)
                self.raises(TooGreat, window, ROOTED, "R", size, -1, 1001, labelled)
        for size in (31, 60, *WRONG):
            self.raises(TooGreat, unlabelled_at, ROOTED, everything, size, -1)
        self.raises(TooGreat, labelled_at, ROOTED, everything, numbers(31), -1)
        for many in (30, 31):
            for structure in (("set", tuple(map(a, numbers(many)))), ("set", (ATOM,) * many)):
                if many == 30:
                    self.assertEqual(index_in(ROOTED, everything, structure), 0)
                else:
                    self.raises(TooGreat, index_in, ROOTED, everything, structure)
        self.assertEqual(unlabelled_at(ROOTED, everything, 30, 0), ("set", (ATOM,) * 30))
        self.raises(TooGreat, index_of, ROOTED, "R", tree(1, *[tree(label) for label in range(2, 32)]))
        # Other labels than the first ones, 31 of them.
        self.raises(TooGreat, index_of, ROOTED, "R", tree(100, *[tree(label) for label in range(2, 32)]))

    def test_indexes(self):
        for index in (9, 10, 10**30, *WRONG):
            self.raises(BadIndex, structure_at, ROOTED, "R", 3, index, True)
            self.raises(BadIndex, labelled_at, ROOTED, ("name", "R"), (4, 6, 7), index)
        for index in (2, 3, 10**30, *WRONG):
            self.raises(BadIndex, structure_at, ROOTED, "R", 3, index, False)
            self.raises(BadIndex, unlabelled_at, ROOTED, ("name", "R"), 3, index)
        self.raises(BadIndex, structure_at, ROOTED, "R", 0, 0, True)
        self.raises(BadIndex, unlabelled_at, ROOTED, ("none",), 5, 0)
        self.assertEqual(structure_at(ROOTED, "R", 3, 8, True), tree(3, tree(2, tree(1))))
        self.assertEqual(structure_at(ROOTED, "R", 3, 1, False), tree(None, tree(None, tree(None))))

    def test_windows(self):
        for labelled in (True, False):
            for wrong in WRONG:
                self.raises(BadIndex, window, ROOTED, "R", 3, wrong, 1, labelled)
                self.raises(BadIndex, window, ROOTED, "R", 3, 0, wrong, labelled)
            for many in (1001, 10**20):
                self.raises(BadIndex, window, ROOTED, "R", 3, 0, many, labelled)
            self.assertEqual(len(window(ROOTED, "R", 9, 5, 1000, labelled)), 1000 if labelled else 281)

    def test_what_is_no_structure(self):
        for value in (None, 1, "R", [], {}, (), ONE, ("atom", 1), ATOM, ("and", a(1)), ("and", ATOM, ("row", ())), ("set", ()),
                      tree(True), tree(0), tree("1"), tree(1, tree(1)), tree(1, tree(None)), tree(None, tree(1)),
                      tree(1, tree(3), tree(2)), ["and", ATOM, ("set", ())], ("and", ATOM, ("set", [])),
                      tree(None, tree(None, tree(None)), tree(None)), tree(2, *[tree(1)] * 40)):
            self.raises(BadStructure, index_of, ROOTED, "R", value)
            self.raises(BadStructure, index_in, ROOTED, ("name", "R"), value)
        for value in (ONE, a(1), ATOM, None):
            self.raises(BadStructure, index_in, ROOTED, ("none",), value)

    def test_structures_of_another_name_or_kind(self):
        maps = known("maps")
        ring = ("ring", (tree(1),))
        self.assertEqual(index_of(maps, "Q", ring), 0)
        self.assertEqual(index_of(maps, "R", tree(7)), 0)
        self.raises(BadStructure, index_of, maps, "R", ring)
        self.raises(BadStructure, index_of, maps, "M", ring)
        self.raises(BadStructure, index_of, maps, "Q", tree(1))
        self.raises(BadStructure, index_in, maps, ("row", ATOM, 0, None), ("set", (a(1),)))
        self.raises(BadStructure, index_in, maps, ("row", ATOM, 0, 1), ("row", (a(1), a(2))))


class TheExample(unittest.TestCase):
    def test_indexes(self):
        self.assertEqual(index_of(ROOTED, "R", EXAMPLE), 3)
        self.assertEqual(structure_at(ROOTED, "R", 3, 3, True), EXAMPLE)
        self.assertEqual(index_of(ROOTED, "R", erased(EXAMPLE)), 0)
        self.assertEqual(structure_at(ROOTED, "R", 3, 0, False), erased(EXAMPLE))
        self.assertEqual(len(list(itertools.chain(window(ROOTED, "R", 3, 0, 1000, True), window(ROOTED, "R", 3, 0, 1000, False)))), 11)


if __name__ == "__main__":
    unittest.main()
