"""Promises 3.5 to 3.9: counts of specifications, and rigid structures."""

import math
import unittest

import brute
from speciesmill.counts import counts_of, labelled_counts, member_counts, rigid_counts, unlabelled_counts
from speciesmill.errors import BadCounts, NoSuchName, NotFounded, TooGreat
from speciesmill.founded import fault
from speciesmill.series import pairs, rings, rows, sets
from speciesmill.spec import Spec, known

NONE, ONE, ATOM = ("none",), ("one",), ("atom",)
R, X = ("name", "R"), ("name", "X")
ENDLESS = ("row", ONE, 0, None)
ROOTED = known("rooted")
KNOWN = {
    "words": "W", "trees": "T", "rooted": "R", "binary": "B", "partitions": "P",
    "permutations": "P", "necklaces": "N", "compositions": "C", "maps": "M",
}
THREE = (labelled_counts, unlabelled_counts, rigid_counts)


class Examples(unittest.TestCase):
    def test_the_examples(self):
        self.assertEqual(labelled_counts(ROOTED, "R", 4), [0, 1, 2, 9, 64])
        self.assertEqual(unlabelled_counts(ROOTED, "R", 6), [0, 1, 1, 2, 4, 9, 20])
        self.assertEqual(rigid_counts(ROOTED, "R", 6), [0, 1, 1, 1, 2, 3, 6])
        self.assertEqual(labelled_counts(known("partitions"), "P", 5), [1, 1, 2, 5, 15, 52])
        self.assertEqual(unlabelled_counts(known("partitions"), "P", 5), [1, 1, 2, 3, 5, 7])
        self.assertEqual(unlabelled_counts(known("necklaces"), "N", 6), [0, 2, 3, 4, 6, 8, 14])
        self.assertEqual(rigid_counts(known("necklaces"), "N", 6), [0, 2, 1, 2, 3, 6, 9])
        self.assertEqual(labelled_counts(known("maps"), "M", 4), [1, 1, 4, 27, 256])
        self.assertEqual(unlabelled_counts(known("maps"), "M", 4), [1, 1, 3, 7, 19])

    def test_well_known_ones(self):
        self.assertEqual(unlabelled_counts(known("words"), "W", 5), [1, 2, 4, 8, 16, 32])
        self.assertEqual(labelled_counts(known("words"), "W", 4), [1, 2, 8, 48, 384])
        self.assertEqual(unlabelled_counts(known("trees"), "T", 7), [0, 1, 1, 2, 5, 14, 42, 132])
        self.assertEqual(unlabelled_counts(known("binary"), "B", 6), [1, 1, 2, 5, 14, 42, 132])
        self.assertEqual(unlabelled_counts(known("compositions"), "C", 6), [1, 1, 2, 4, 8, 16, 32])
        self.assertEqual(labelled_counts(known("permutations"), "P", 6), [1, 1, 2, 6, 24, 120, 720])
        self.assertEqual(unlabelled_counts(known("permutations"), "P", 6), [1, 1, 2, 3, 5, 7, 11])

    def test_the_size_60(self):
        self.assertEqual(labelled_counts(ROOTED, "R", 60), [0] + [size ** (size - 1) for size in range(1, 61)])
        self.assertEqual(labelled_counts(known("maps"), "M", 60), [size**size for size in range(61)])
        self.assertEqual(labelled_counts(known("permutations"), "P", 60), [math.factorial(size) for size in range(61)])
        self.assertEqual(unlabelled_counts(known("words"), "W", 60), [2**size for size in range(61)])
        self.assertEqual(unlabelled_counts(known("partitions"), "P", 60)[60], 966467)
        catalan = [math.comb(2 * size, size) // (size + 1) for size in range(61)]
        self.assertEqual(unlabelled_counts(known("binary"), "B", 60), catalan)
        necklaces = [sum(2 ** math.gcd(size, turn) for turn in range(size)) // size for size in range(1, 61)]
        self.assertEqual(unlabelled_counts(known("necklaces"), "N", 60), [0] + necklaces)
        self.assertEqual(unlabelled_counts(ROOTED, "R", 30)[30], 354426847597)

    def test_by_trying(self):
        for word in ("words", "trees", "rooted", "binary", "partitions", "permutations", "necklaces", "maps"):
            most = 3 if word == "maps" else 4
            wanted = brute.three_counts(known(word), ("name", KNOWN[word]), most)
            for function, counts in zip(THREE, wanted):
                self.assertEqual(function(known(word), KNOWN[word], most), counts, word)

    def test_other_specifications_by_trying(self):
        for spec in brute.random_specs(17, 150, 4):
            for name in spec.names():
                most = 4
                while sum(labelled_counts(spec, name, most)) > 300:
                    most -= 1
                wanted = brute.three_counts(spec, ("name", name), most)
                for function, counts in zip(THREE, wanted):
                    self.assertEqual(function(spec, name, most), counts, (spec.names(), name))

    def test_less_is_a_part_of_more(self):
        for word, name in KNOWN.items():
            for function in THREE:
                whole = function(known(word), name, 12)
                for most in (0, 1, 7):
                    self.assertEqual(function(known(word), name, most), whole[: most + 1])


class Kinds(unittest.TestCase):
    def same(self, expression, labelled, unlabelled, spec=ROOTED):
        self.assertEqual(counts_of(spec, expression, len(labelled) - 1, True), labelled)
        self.assertEqual(counts_of(spec, expression, len(unlabelled) - 1, False), unlabelled)

    def test_plain_ones(self):
        self.same(NONE, [0, 0, 0], [0, 0, 0])
        self.same(ONE, [1, 0, 0], [1, 0, 0])
        self.same(ATOM, [0, 1, 0], [0, 1, 0])
        self.same(R, [0, 1, 2, 9], [0, 1, 1, 2])
        self.same(ATOM, [0], [0])

    def test_or_and_and(self):
        self.same(("or", R, ("or", ONE, ATOM)), [1, 2, 2, 9], [1, 2, 1, 2])
        self.same(("and", R, R), [0, 0, 2, 12], [0, 0, 1, 2])
        self.same(("and", ("or", ONE, ATOM), ("or", ONE, ATOM)), [1, 2, 2, 0], [1, 2, 1, 0])

    def test_rows_sets_and_rings(self):
        for labelled in (True, False):
            inner = counts_of(ROOTED, R, 20, labelled)
            self.assertEqual(counts_of(ROOTED, ("and", R, R), 20, labelled), pairs(inner, inner, labelled))
            for least, most in ((0, None), (1, None), (2, 5), (0, 0), (1, 1), (3, 3), (2, None), (30, 30)):
                for word, function in (("row", rows), ("set", sets), ("ring", rings)):
                    if word != "ring" or least:
                        found = counts_of(ROOTED, (word, R, least, most), 20, labelled)
                        self.assertEqual(found, function(inner, least, most, labelled), (word, least, most))

    def test_members_without_atoms(self):
        for labelled in (True, False):
            self.assertEqual(counts_of(ROOTED, ("set", ("or", ONE, ATOM), 0, 1), 2, labelled), [2, 1, 0])
            self.assertEqual(counts_of(ROOTED, ("ring", ("or", ONE, ONE), 1, 1), 1, labelled), [2, 0])
            self.assertEqual(counts_of(ROOTED, ("row", ONE, 0, 0), 1, labelled), [1, 0])

    def test_an_expression_nested_deep(self):
        expression = ATOM
        for _ in range(10):
            expression = ("or", ATOM, expression)
        self.same(expression, [0, 11, 0], [0, 11, 0])

    def test_names_that_stand_for_themselves_behind_atoms(self):
        spec = Spec({"A": ("and", ("row", ("name", "A"), 2, None), ATOM), "B": ("or", ("name", "A"), ONE)})
        self.assertEqual(unlabelled_counts(spec, "A", 8), [0] * 9)
        for word in ("row", "set"):
            spec = Spec({"A": (word, ("name", "A"), 0, 0), "B": ("or", ("name", "A"), (word, ("name", "B"), 2, 2))})
            self.assertEqual(fault(spec), ("members", "B"))
            spec = Spec({"A": (word, ("name", "A"), 0, 0), "B": ("or", ATOM, (word, ("name", "B"), 2, 2))})
            for function in THREE:
                self.assertEqual(function(spec, "A", 4), [1, 0, 0, 0, 0])
            self.assertEqual(counts_of(spec, ("name", "B"), 4, False), [0, 1, 1, 2, 5] if word == "row" else [0, 1, 1, 1, 2])
        spec = Spec({"A": ("or", ATOM, ("row", ("name", "A"), 2, None))})
        self.assertEqual(unlabelled_counts(spec, "A", 7), [0, 1, 1, 3, 11, 45, 197, 903])
        spec = Spec({"A": ("or", ATOM, ("set", ("name", "A"), 2, None))})
        self.assertEqual(unlabelled_counts(spec, "A", 8), [0, 1, 1, 2, 5, 12, 33, 90, 261])
        self.assertEqual(labelled_counts(spec, "A", 6), [0, 1, 1, 4, 26, 236, 2752])
        spec = Spec({"A": ("or", ("and", ("name", "A"), ATOM), ("or", ("and", ATOM, ("name", "A")), ONE))})
        self.assertEqual(unlabelled_counts(spec, "A", 5), [1, 2, 4, 8, 16, 32])

    def test_it_is_new_each_time(self):
        for _ in range(2):
            found = labelled_counts(ROOTED, "R", 3)
            self.assertEqual(found, [0, 1, 2, 9])
            found.append(7)
            table = member_counts(known("partitions"), "P", 2, True)
            self.assertEqual(table, [[1, 0], [0, 1], [0, 1, 1]])
            table[0].append(3)
            self.assertEqual(counts_of(ROOTED, ATOM, 1, False), [0, 1])


class MemberCounts(unittest.TestCase):
    def test_partitions(self):
        spec = known("partitions")
        labelled = [[1, 0], [0, 1], [0, 1, 1], [0, 1, 3, 1], [0, 1, 7, 6, 1], [0, 1, 15, 25, 10, 1]]
        self.assertEqual(member_counts(spec, "P", 5, True), labelled)
        unlabelled = [[1, 0], [0, 1], [0, 1, 1], [0, 1, 1, 1], [0, 1, 2, 1, 1], [0, 1, 2, 2, 1, 1]]
        self.assertEqual(member_counts(spec, "P", 5, False), unlabelled)
        self.assertEqual(member_counts(spec, "Q", 3, True), [[0, 0], [0, 1], [0, 0, 1], [0, 0, 0, 1]])

    def test_permutations_and_necklaces(self):
        wanted = [[1, 0], [0, 1], [0, 1, 1], [0, 2, 3, 1], [0, 6, 11, 6, 1]]
        self.assertEqual(member_counts(known("permutations"), "P", 4, True), wanted)
        self.assertEqual(member_counts(known("necklaces"), "N", 3, False), [[0, 0], [0, 2], [0, 0, 3], [0, 0, 0, 4]])
        self.assertEqual(member_counts(known("necklaces"), "N", 3, True), [[0, 0], [0, 2], [0, 0, 4], [0, 0, 0, 16]])

    def test_rows(self):
        wanted = [[1, 0], [0, 1], [0, 1, 1], [0, 1, 2, 1], [0, 1, 3, 3, 1]]
        self.assertEqual(member_counts(known("compositions"), "C", 4, False), wanted)

    def test_bounds(self):
        for word in ("row", "set", "ring"):
            for least, most in ((1, 2), (2, 3), (2, None), (3, 3), (1, 1), (30, None), (4, 30)):
                spec = Spec({"A": (word, ("name", "B"), least, most), "B": ("row", ATOM, 1, None)})
                free = Spec({"A": (word, ("name", "B"), 1, None), "B": ("row", ATOM, 1, None)})
                for labelled in (True, False):
                    table = member_counts(spec, "A", 6, labelled)
                    for size, row in enumerate(member_counts(free, "A", 6, labelled)):
                        for members, many in enumerate(row):
                            fits = members >= least and (most is None or members <= most)
                            self.assertEqual(table[size][members], many if fits else 0)

    def test_members_without_atoms(self):
        spec = Spec({"A": ("set", ("or", ONE, ("or", ONE, ATOM)), 0, 1), "B": ("row", ONE, 0, 0), "C": ("ring", ONE, 1, 1)})
        for labelled in (True, False):
            self.assertEqual(member_counts(spec, "A", 2, labelled), [[1, 2], [0, 1], [0, 0, 0]])
            self.assertEqual(member_counts(spec, "B", 1, labelled), [[1, 0], [0, 0]])
            self.assertEqual(member_counts(spec, "C", 1, labelled), [[0, 1], [0, 0]])

    def test_the_sum_of_each_row(self):
        kinds = [(known("partitions"), "P"), (known("necklaces"), "N"), (known("maps"), "Q"), (known("words"), "W")]
        for least, most in ((0, 3), (2, None), (2, 7), (0, 0)):
            for word in ("row", "set"):
                kinds.append((Spec({"A": (word, ("row", ATOM, 1, 4), least, most)}), "A"))
        for spec, name in kinds:
            for labelled, function in ((True, labelled_counts), (False, unlabelled_counts)):
                table = member_counts(spec, name, 20, labelled)
                self.assertEqual([sum(row) for row in table], function(spec, name, 20))
                self.assertEqual([len(row) for row in table], [2, 2] + list(range(3, 22)))

    def test_the_size_60(self):
        table = member_counts(known("partitions"), "P", 60, True)
        self.assertEqual(table[60][59], math.comb(60, 2))
        self.assertEqual(table[60][2], 2**59 - 1)
        self.assertEqual(len(member_counts(known("partitions"), "P", 60, False)), 61)

    def test_other_expressions(self):
        spec = Spec({"A": ("name", "B"), "B": ("set", ATOM, 0, None), "C": ATOM, "D": ("and", ATOM, ("name", "B")), "E": ONE})
        for name in "ACDE":
            for labelled in (True, False):
                with self.assertRaises(BadCounts):
                    member_counts(spec, name, 3, labelled)
        with self.assertRaises(BadCounts):
            member_counts(ROOTED, "R", 0, True)


class Errors(unittest.TestCase):
    def raises(self, error, function, *arguments):
        with self.assertRaises(error):
            function(*arguments)

    def each(self, error, spec, name, most):
        for function in THREE:
            self.raises(error, function, spec, name, most)
        for labelled in (True, False):
            self.raises(error, member_counts, spec, name, most, labelled)
            self.raises(error, counts_of, spec, ("name", name), most, labelled)

    def test_not_founded_first(self):
        for spec in (Spec({"A": ("name", "A")}), Spec({"A": ATOM, "B": ENDLESS})):
            for name in ("A", "X"):
                for most in (3, -1, 61):
                    self.each(NotFounded, spec, name, most)
        for expression in (ATOM, X, ("and", X, ENDLESS)):
            self.raises(NotFounded, counts_of, Spec({"A": ("name", "A")}), expression, 61, True)

    def test_then_the_name(self):
        for most in (0, 60, 61, -1, True):
            self.each(NoSuchName, ROOTED, "X", most)
            self.each(NoSuchName, known("partitions"), "R", most)
            self.raises(NoSuchName, counts_of, ROOTED, ("or", R, ("set", ("and", X, ENDLESS), 0, 0)), most, False)

    def test_then_the_size(self):
        for most in (61, 62, 1000, 10**30, -1, True, False, None, "3", 2.0):
            self.each(TooGreat, ROOTED, "R", most)
            self.each(TooGreat, known("partitions"), "P", most)
            self.raises(TooGreat, counts_of, ROOTED, ENDLESS, most, True)

    def test_then_the_members(self):
        empty = ("or", ATOM, ONE)
        for expression in (ENDLESS, ("set", empty, 1, 2), ("ring", empty, 1, None), ("or", R, ("and", NONE, ENDLESS))):
            for most in (0, 1, 60):
                for labelled in (True, False):
                    self.raises(BadCounts, counts_of, ROOTED, expression, most, labelled)
        self.raises(BadCounts, counts_of, known("maps"), ("set", ("name", "M"), 0, 2), 5, True)
        self.assertEqual(counts_of(known("maps"), ("set", ("name", "M"), 0, 1), 3, True), [2, 1, 4, 27])


class Rigid(unittest.TestCase):
    def rigid(self, expression, most=6):
        return rigid_counts(Spec({"A": expression}), "A", most)

    def test_sets(self):
        two = ("or", ATOM, ATOM)
        self.assertEqual(self.rigid(("set", ATOM, 0, None)), [1, 1, 0, 0, 0, 0, 0])
        self.assertEqual(self.rigid(("set", two, 0, None)), [1, 2, 1, 0, 0, 0, 0])
        # Rows are all rigid, so these are the partitions of a number into different parts.
        self.assertEqual(self.rigid(("set", ("row", ATOM, 1, None), 0, None), 9), [1, 1, 1, 2, 2, 3, 4, 5, 6, 8])
        self.assertEqual(self.rigid(("set", ("row", ATOM, 1, None), 2, 2), 9), [0, 0, 0, 1, 1, 2, 2, 3, 3, 4])
        self.assertEqual(self.rigid(("set", ("or", ONE, ATOM), 0, 1)), [2, 1, 0, 0, 0, 0, 0])

    def test_rings(self):
        self.assertEqual(self.rigid(("ring", ATOM, 1, None)), [0, 1, 0, 0, 0, 0, 0])
        two = ("or", ATOM, ATOM)
        self.assertEqual(self.rigid(("ring", two, 1, None), 12), [0, 2, 1, 2, 3, 6, 9, 18, 30, 56, 99, 186, 335])
        self.assertEqual(self.rigid(("ring", two, 3, 4)), [0, 0, 0, 2, 3, 0, 0])
        self.assertEqual(self.rigid(("ring", ONE, 1, 1)), [1, 0, 0, 0, 0, 0, 0])

    def test_what_holds_of_the_three_counts(self):
        for word, name in KNOWN.items():
            found = [function(known(word), name, 30) for function in THREE]
            for size, (labelled, unlabelled, rigid) in enumerate(zip(*found)):
                many = math.factorial(size)
                self.assertLessEqual(many * rigid, labelled, word)
                self.assertLessEqual(labelled, many * unlabelled, word)

    def test_all_three_are_equal_without_sets_and_rings(self):
        bounded = Spec({"A": ("or", ONE, ("and", ("set", ATOM, 1, 1), ("row", ("ring", ("name", "B"), 1, 1), 0, None))), "B": ATOM})
        kinds = [(known(word), KNOWN[word]) for word in ("words", "trees", "binary", "compositions")] + [(bounded, "A")]
        for spec, name in kinds:
            labelled, unlabelled, rigid = [function(spec, name, 40) for function in THREE]
            self.assertEqual(unlabelled, rigid)
            self.assertEqual(labelled, [math.factorial(size) * many for size, many in enumerate(unlabelled)])

    def test_they_differ_with_sets_and_rings(self):
        for word in ("rooted", "partitions", "permutations", "necklaces", "maps"):
            labelled, unlabelled, rigid = [function(known(word), KNOWN[word], 6) for function in THREE]
            self.assertNotEqual(unlabelled, rigid)
            self.assertNotEqual(labelled, [math.factorial(size) * many for size, many in enumerate(unlabelled)])

    def test_rigid_maps(self):
        self.assertEqual(rigid_counts(known("maps"), "M", 3), brute.three_counts(known("maps"), ("name", "M"), 3)[2])


if __name__ == "__main__":
    unittest.main()
