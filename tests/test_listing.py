"""Promises 4.1 to 4.6: lists of structures."""

import unittest

import brute
from samples import ATOM, KINDS, ONE, TWO, WORDS, a, numbers, tree
from speciesmill.counts import labelled_counts, unlabelled_counts
from speciesmill.erase import erased, on_labels
from speciesmill.errors import BadCounts, BadLabels, BadStructure, NoSuchName, NotFounded, TooGreat, TooMany
from speciesmill.listing import labelled_list, labelled_on, next_one, unlabelled_list, unlabelled_of
from speciesmill.spec import Spec, known
from speciesmill.symmetry import labellings

PLAIN = Spec({"A": ATOM})
ROOTED = known("rooted")


def both(spec, expression, labels):
    """All labelled and all unlabelled structures, in order, made in another way."""
    structures = brute.all_on(spec, expression, labels)
    plain = {brute.erased(structure) for structure in structures}
    return sorted(structures, key=brute.key), sorted(plain, key=brute.key)


class Lists(unittest.TestCase):
    def same(self, spec, size):
        for name in spec.names():
            labelled, unlabelled = both(spec, ("name", name), numbers(size))
            self.assertEqual(labelled_list(spec, name, size), labelled, (name, size))
            self.assertEqual(unlabelled_list(spec, name, size), unlabelled, (name, size))

    def test_known_specifications(self):
        for word in WORDS:
            for size in range(5):
                self.same(known(word), size)

    def test_other_specifications(self):
        for spec in brute.random_specs(61, 120, 4) + brute.random_specs(62, 15, 8):
            for size in range(4):
                self.same(spec, size)

    def test_each_kind_of_expression(self):
        for expression in KINDS:
            for size in range(5):
                labelled, unlabelled = both(PLAIN, expression, numbers(size))
                self.assertEqual(labelled_on(PLAIN, expression, numbers(size)), labelled, (expression, size))
                self.assertEqual(unlabelled_of(PLAIN, expression, size), unlabelled, (expression, size))

    def test_greater_lists_ascend(self):
        for word, labelled_size, size in (("words", 4, 10), ("trees", 5, 9), ("rooted", 5, 9), ("binary", 5, 8), ("maps", 5, 8),
                                          ("partitions", 7, 20), ("permutations", 6, 20), ("necklaces", 5, 14)):
            spec = known(word)
            name = spec.names()[0]
            labelled, unlabelled = labelled_list(spec, name, labelled_size), unlabelled_list(spec, name, size)
            self.assertEqual(len(labelled), labelled_counts(spec, name, labelled_size)[-1])
            self.assertEqual(len(unlabelled), unlabelled_counts(spec, name, size)[-1])
            for found in (labelled, unlabelled):
                keys = [brute.key(structure) for structure in found]
                self.assertTrue(all(keys[at] < keys[at + 1] for at in range(len(keys) - 1)))
                for structure in found[::37]:
                    self.assertEqual(structure, brute.plain_form(structure))

    def test_size_0(self):
        self.assertEqual(labelled_list(known("words"), "W", 0), [("row", ())])
        self.assertEqual(unlabelled_list(known("maps"), "M", 0), [("set", ())])
        self.assertEqual(labelled_list(ROOTED, "R", 0), [])
        self.assertEqual(unlabelled_list(ROOTED, "R", 0), [])
        self.assertEqual(labelled_on(ROOTED, ("row", ("or", ONE, ONE), 0, 1), ()),
                         [("row", ()), ("row", (("left", ONE),)), ("row", (("right", ONE),))])

    def test_other_labels(self):
        for expression in KINDS + [("name", "A")]:
            for labels in ((4,), (2, 5), (3, 8, 10**30)):
                wanted = both(PLAIN, expression, labels)[0]
                found = labelled_on(PLAIN, expression, labels)
                self.assertEqual(found, wanted)
                self.assertEqual(found, [on_labels(one, labels) for one in labelled_on(PLAIN, expression, numbers(len(labels)))])

    def test_names_within_expressions(self):
        expression = ("and", ("name", "R"), ("ring", ("name", "R"), 1, 2))
        labelled, unlabelled = both(ROOTED, expression, (1, 2, 3, 4))
        self.assertEqual(labelled_on(ROOTED, expression, (1, 2, 3, 4)), labelled)
        self.assertEqual(unlabelled_of(ROOTED, expression, 4), unlabelled)

    def test_sets_of_many_atoms(self):
        labels = tuple(range(3, 33))
        everything = ("set", tuple(map(a, labels)))
        for least, most in ((0, None), (30, 30), (7, None)):
            self.assertEqual(labelled_on(PLAIN, ("set", ATOM, least, most), labels), [everything])
        self.assertEqual(labelled_on(PLAIN, ("set", ATOM, 0, 29), labels), [])
        pairs = labelled_on(PLAIN, ("and", ("set", ATOM, 2, 2), ("set", ATOM, 0, None)), labels)
        self.assertEqual(len(pairs), 435)
        self.assertEqual(pairs[1], ("and", ("set", (a(3), a(5))), ("set", tuple(map(a, (4, *labels[3:]))))))
        self.assertEqual(len(unlabelled_of(PLAIN, ("set", ("set", ATOM, 1, None), 0, None), 30)), 5604)
        self.assertEqual(unlabelled_of(PLAIN, ("ring", ATOM, 1, None), 30), [("ring", (ATOM,) * 30)])

    def test_deep_structures(self):
        wrapped = ("and", ATOM, ("name", "B"))
        for _ in range(8):
            wrapped = ("or", ("none",), wrapped)
        equations = {name: ("or", ("none",), ("name", other)) for name, other in zip("BCDEFGHIJ", "CDEFGHIJK")}
        spec = Spec({"A": wrapped, **equations, "K": ("or", ONE, ("name", "A"))})
        for found in (unlabelled_list(spec, "A", 30), labelled_list(spec, "A", 1)):
            self.assertEqual(len(found), 1)
            self.assertIsNone(next_one(spec, "A", found[0]))
        found = labelled_list(spec, "A", 4)
        self.assertEqual(len(found), 24)
        self.assertTrue(next_one(spec, "A", found[7]) == found[8])

    def test_what_is_returned_is_new(self):
        for question in (lambda: labelled_list(ROOTED, "R", 4), lambda: unlabelled_list(ROOTED, "R", 5),
                         lambda: labelled_on(ROOTED, ("name", "R"), (2, 3)), lambda: unlabelled_of(ROOTED, ("name", "R"), 3)):
            first = question()
            again = list(first)
            first.clear()
            self.assertEqual(question(), again)


class Errors(unittest.TestCase):
    def raises(self, error, function, *arguments):
        with self.assertRaises(error, msg=arguments):
            function(*arguments)

    def test_lists_of_names(self):
        endless = Spec({"A": ("row", ATOM, 0, None), "B": ("name", "B")})
        for function in (labelled_list, unlabelled_list):
            for name, size in (("A", 2), ("X", 2), ("A", 31), ("X", -1)):
                self.raises(NotFounded, function, endless, name, size)
            for name, size in (("X", 2), ("r", 31), ("", -1), (None, 3)):
                self.raises(NoSuchName, function, ROOTED, name, size)
            for size in (31, 32, 10**20, -1, True, False, None, "3", 3.0):
                self.raises(TooGreat, function, ROOTED, "R", size)
            self.raises(TooMany, function, ROOTED, "R", 30)

    def test_lists_of_expressions(self):
        broken = Spec({"A": ("name", "A")})
        missing, endless = ("name", "X"), ("set", ONE, 0, 2)
        for expression in (ATOM, missing, ("or", missing, endless)):
            self.raises(NotFounded, labelled_on, broken, expression, numbers(31))
            self.raises(NotFounded, unlabelled_of, broken, expression, 31)
        for expression in (missing, ("or", missing, endless), ("and", endless, missing)):
            self.raises(NoSuchName, labelled_on, ROOTED, expression, numbers(31))
            self.raises(NoSuchName, unlabelled_of, ROOTED, expression, 31)
        for expression in (ATOM, endless):
            self.raises(TooGreat, labelled_on, ROOTED, expression, numbers(31))
            for size in (31, 60, -1, True, None, "1"):
                self.raises(TooGreat, unlabelled_of, ROOTED, expression, size)
        for size in (0, 1, 30):
            for expression in (endless, ("or", endless, ("row", TWO, 0, None))):
                self.raises(BadCounts, labelled_on, ROOTED, expression, numbers(size))
                self.raises(BadCounts, unlabelled_of, ROOTED, expression, size)
        self.raises(TooMany, labelled_on, ROOTED, ("row", ATOM, 0, None), numbers(8))
        self.raises(TooMany, unlabelled_of, ROOTED, ("row", TWO, 0, None), 15)

    def test_labels_ahead_of_all_else(self):
        broken = Spec({"A": ("name", "A")})
        for labels in ((2, 1), (1, 1), (0, 1), (-1,), (True,), (True, 2), ("1",), (None,), (1.0,), [1, 2], [], None, 1, "1", {}):
            for spec in (broken, ROOTED):
                for expression in (ATOM, ("name", "X"), ("set", ONE, 0, 2)):
                    self.raises(BadLabels, labelled_on, spec, expression, labels)
        self.raises(BadLabels, labelled_on, ROOTED, ATOM, (*numbers(31), 31))

    def test_too_many(self):
        # There are 20000 ways to choose five times one of two, and four times one of five.
        for one, size in ((ONE, 0), (ATOM, 9)):
            two = ("or", one, one)
            five = ("or", two, ("or", two, one))
            fours = ("and", ("and", two, two), ("and", two, two))
            many = ("and", ("and", two, fours), ("and", ("and", five, five), ("and", five, five)))
            more = ("or", many, ("row", ATOM, 0, None))
            spec = Spec({"A": many, "B": more})
            for found in (unlabelled_of(PLAIN, many, size), unlabelled_list(spec, "A", size)):
                self.assertEqual(len(found), 20000)
                self.assertEqual(found[0][1][1], ("left", one))
                self.assertEqual(found[-1][1][1], ("right", one))
            self.raises(TooMany, unlabelled_of, PLAIN, more, size)
            self.raises(TooMany, unlabelled_list, spec, "B", size)
            if size == 0:
                self.assertEqual(len(labelled_on(PLAIN, many, ())), 20000)
                self.assertEqual(len(labelled_list(spec, "A", 0)), 20000)
                self.raises(TooMany, labelled_on, PLAIN, more, ())
                self.raises(TooMany, labelled_list, spec, "B", 0)

    def test_parts_that_are_too_many_but_stand_in_no_structure(self):
        words = ("row", TWO, 0, None)
        for expression in (("and", words, ("none",)), ("set", ("or", words, ATOM), 0, 0), ("and", ("set", ATOM, 20, 20), words)):
            self.assertEqual(len(unlabelled_of(PLAIN, expression, 20)), 1 if expression[2] == words else 0)
        # Of two members of the size 21 none has the size 20, of which there are far too many.
        member = ("or", ("row", ATOM, 9, 9), ("or", ("row", ATOM, 12, 12), ("row", TWO, 20, 20)))
        for word in ("row", "set", "ring"):
            self.assertEqual(len(unlabelled_of(PLAIN, (word, member, 2, 2), 21)), 2 if word == "row" else 1)
        rare = ("or", ("and", ATOM, ("and", ATOM, words)), ("and", ATOM, ATOM))
        self.assertEqual(unlabelled_of(PLAIN, ("set", ("row", rare, 9, 9), 1, None), 18)[0][0], "set")


class AllTogether(unittest.TestCase):
    def test_erased_lists(self):
        specs = [known(word) for word in WORDS] + brute.random_specs(63, 40, 4)
        for spec in specs:
            for size in range(5):
                name = spec.names()[0]
                labelled, unlabelled = labelled_list(spec, name, size), unlabelled_list(spec, name, size)
                found = {}
                for structure in labelled:
                    plain = erased(structure)
                    found[plain] = found.get(plain, 0) + 1
                self.assertEqual(found, {plain: labellings(plain) for plain in unlabelled})
                self.assertEqual(len(labelled), sum(labellings(plain) for plain in unlabelled))
                self.assertEqual(len(labelled), labelled_counts(spec, name, size)[size])
                self.assertEqual(len(unlabelled), unlabelled_counts(spec, name, size)[size])


class NextOne(unittest.TestCase):
    def bad(self, structure, spec=ROOTED, name="R"):
        with self.assertRaises(BadStructure, msg=structure):
            next_one(spec, name, structure)

    def test_small_lists(self):
        for spec in [known(word) for word in WORDS] + brute.random_specs(64, 30, 4):
            for name in spec.names():
                for size in range(4):
                    for found in (labelled_list(spec, name, size), unlabelled_list(spec, name, size)):
                        for structure, after in zip(found, found[1:] + [None]):
                            self.assertEqual(next_one(spec, name, structure), after)

    def test_no_atoms(self):
        spec = Spec({"A": ("row", ("or", ONE, ("or", ATOM, ONE)), 0, 1)})
        found = [("row", ()), ("row", (("left", ONE),)), ("row", (("right", ("right", ONE)),))]
        self.assertEqual(labelled_list(spec, "A", 0), found)
        self.assertEqual([next_one(spec, "A", structure) for structure in found], found[1:] + [None])

    def test_what_is_no_structure(self):
        for value in (None, 1, "R", [], {}, (), ("one",), ("atom", 1), ATOM, ("and", a(1)), ("and", ATOM, ("row", ())),
                      tree(True), tree(0), tree("1"), tree(1, tree(1)), tree(1, tree(None)), tree(None, tree(1)),
                      tree(1, tree(3), tree(2)), ["and", ATOM, ("set", ())], ("and", ATOM, ("set", []))):
            self.bad(value)
        self.bad(tree(None, tree(None, tree(None)), tree(None)))

    def test_labelled_ones_that_are_not_standard(self):
        for structure in (tree(2), tree(1, tree(3)), tree(5, tree(4), tree(6))):
            self.bad(structure)

    def test_structures_of_another_name(self):
        maps = known("maps")
        ring = ("ring", (tree(1),))
        self.assertIsNone(next_one(maps, "Q", ring))
        self.assertIsNone(next_one(maps, "R", tree(1)))
        self.bad(ring, maps, "R")
        self.bad(ring, maps, "M")
        self.bad(tree(1), maps, "Q")
        self.bad(("right", ATOM), known("words"), "W")

    def test_other_errors(self):
        path = tree(1)
        star = tree(1, *[tree(label) for label in range(2, 32)])
        for label in range(2, 8):
            path = tree(label, path)
        for structure in (path, tree(1, *[tree(label) for label in range(2, 31)])):
            with self.assertRaises(TooMany):
                next_one(ROOTED, "R", structure)
        for structure in (star, erased(star)):
            with self.assertRaises(TooGreat):
                next_one(ROOTED, "R", structure)
        broken = Spec({"A": ("name", "A"), "R": ROOTED.expression("R")})
        for value in (tree(1), None, star):
            with self.assertRaises(NotFounded):
                next_one(broken, "R", value)
            with self.assertRaises(NotFounded):
                next_one(broken, "X", value)
            with self.assertRaises(NoSuchName):
                next_one(ROOTED, "X", value)


class TheExample(unittest.TestCase):
    def test_rooted(self):
        labelled, unlabelled = labelled_list(ROOTED, "R", 3), unlabelled_list(ROOTED, "R", 3)
        self.assertEqual(len(labelled), 9)
        self.assertEqual(unlabelled, [tree(None, tree(None), tree(None)), tree(None, tree(None, tree(None)))])
        self.assertEqual(labelled[3], tree(2, tree(1), tree(3)))
        self.assertEqual(next_one(ROOTED, "R", unlabelled[0]), unlabelled[1])
        self.assertIsNone(next_one(ROOTED, "R", unlabelled[1]))

    def test_necklaces(self):
        necklaces = known("necklaces")
        self.assertEqual(len(unlabelled_list(necklaces, "N", 3)), 4)
        self.assertEqual(len(labelled_list(necklaces, "N", 3)), 16)


if __name__ == "__main__":
    unittest.main()
