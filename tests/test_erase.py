"""Promises 2.6 and 2.7: structures with other labels, and without labels."""

import itertools
import unittest

import brute
from samples import ATOM, EXAMPLE, ONE, a, tree
from speciesmill.erase import erased, labelled_from, on_labels, renamed, standard
from speciesmill.errors import BadLabels
from speciesmill.spec import known
from speciesmill.structure import is_standard, labels_of, size_of

EMPTY = (ONE, ("row", ()), ("set", ()), ("left", ("set", (ONE,))), ("and", ONE, ("ring", (ONE,))))
PLAIN = (ATOM, ("row", (ATOM, ATOM)), ("and", ONE, ATOM), ("left", ("set", (ATOM,))), ("ring", (ATOM,)))


def some_structures():
    """Small structures of many kinds, on the labels 2, 5 and 9 and on 1 to 4, each with the labels."""
    specs = brute.random_specs(31, 60, 4) + [known(word) for word in ("maps", "permutations", "binary", "words")]
    for spec in specs:
        for labels in ((2, 5, 9), (1, 2, 3, 4)):
            for structure in sorted(brute.all_on(spec, ("name", spec.names()[0]), labels), key=brute.key)[:12]:
                yield structure, labels


def replaced(structure, names):
    """The structure with other labels, but not in its one form."""
    if structure[0] == "atom":
        return a(names[structure[1]])
    if structure[0] in brute.MANY:
        return (structure[0], tuple(replaced(part, names) for part in structure[1]))
    return (structure[0],) + tuple(replaced(part, names) for part in structure[1:])


class Renamed(unittest.TestCase):
    def bad(self, structure, names):
        with self.assertRaises(BadLabels):
            renamed(structure, names)

    def test_each_label_is_replaced(self):
        self.assertEqual(renamed(a(1), {1: 7}), a(7))
        self.assertEqual(renamed(a(7), {7: 7}), a(7))
        self.assertEqual(renamed(("row", (a(3), a(1))), {1: 3, 3: 1}), ("row", (a(1), a(3))))
        self.assertEqual(renamed(("and", a(2), ("right", a(5))), {2: 9, 5: 4}), ("and", a(9), ("right", a(4))))

    def test_the_order_of_sets_and_rings_follows(self):
        self.assertEqual(renamed(("set", (a(1), a(2))), {1: 8, 2: 4}), ("set", (a(4), a(8))))
        self.assertEqual(renamed(("ring", (a(1), a(2), a(3))), {1: 3, 2: 1, 3: 2}), ("ring", (a(1), a(2), a(3))))
        self.assertEqual(renamed(("ring", (a(1), a(2), a(3))), {1: 2, 2: 1, 3: 3}), ("ring", (a(1), a(3), a(2))))
        first = tree(4, tree(1), tree(2, tree(3), tree(5)))
        second = tree(1, tree(2, tree(3), tree(4)), tree(5))
        self.assertEqual(renamed(first, {1: 5, 2: 2, 3: 4, 4: 1, 5: 3}), second)

    def test_all_renamings_of_small_structures(self):
        for structure, labels in some_structures():
            for numbers in list(itertools.permutations(labels))[::5] + [(40, 7, 20, 3)]:
                names = dict(zip(labels, numbers))
                self.assertEqual(renamed(structure, names), brute.plain_form(replaced(structure, names)))

    def test_two_maps_one_after_the_other(self):
        for structure, labels in some_structures():
            first = dict(zip(labels, (30, 10, 40, 20)))
            second = {10: 2, 20: 1, 30: 4, 40: 3}
            both = {label: second[first[label]] for label in labels}
            self.assertEqual(renamed(renamed(structure, first), second), renamed(structure, both))
            back = {first[label]: label for label in labels}
            self.assertEqual(renamed(renamed(structure, first), back), structure)

    def test_further_keys_do_not_matter(self):
        others = {4: 1, 5: 1, 6: 0, "x": None, None: -1, 7: True, (1, 2): "y"}
        self.assertEqual(renamed(EXAMPLE, {**others, 1: 3, 2: 1, 3: 2}), tree(1, tree(2), tree(3)))
        for structure in EMPTY:
            self.assertEqual(renamed(structure, others), structure)
            self.assertEqual(renamed(structure, {}), structure)

    def test_numbers_of_any_size(self):
        self.assertEqual(renamed(("set", (a(1), a(2))), {1: 10**50, 2: 10**49}), ("set", (a(10**49), a(10**50))))
        self.assertEqual(renamed(a(10**50), {10**50: 1}), a(1))

    def test_a_key_left_out(self):
        self.bad(EXAMPLE, {1: 1, 2: 2})
        self.bad(EXAMPLE, {})
        self.bad(a(1), {"1": 1})
        self.bad(a(1), {2: 1})

    def test_like_numbers(self):
        self.bad(EXAMPLE, {1: 1, 2: 2, 3: 2})
        self.bad(("row", (a(1), a(2))), {1: 5, 2: 5})

    def test_wrong_numbers(self):
        for number in (0, -1, True, False, None, "2", 2.0, (2,), [2], {}):
            self.bad(EXAMPLE, {1: 1, 2: number, 3: 3})
            self.bad(a(1), {1: number})

    def test_what_is_no_dict(self):
        for names in (None, True, 3, "123", [0, 1, 2, 3], (0, 1, 2, 3), [(1, 1)], {1, 2, 3}, range(5)):
            self.bad(EXAMPLE, names)
            self.bad(ONE, names)
            self.bad(ATOM, names)

    def test_unlabelled_ones_with_atoms(self):
        for structure in PLAIN:
            self.bad(structure, {})
            self.bad(structure, {1: 1, 2: 2})

    def test_the_dict_stays_as_it_is(self):
        names = {3: 1, 2: 2, 1: 3, 9: "x"}
        for _ in range(2):
            self.assertEqual(renamed(EXAMPLE, names), tree(2, tree(1), tree(3)))
            self.assertEqual(list(names.items()), [(3, 1), (2, 2), (1, 3), (9, "x")])


class OnLabels(unittest.TestCase):
    def bad(self, structure, labels):
        with self.assertRaises(BadLabels):
            on_labels(structure, labels)

    def test_other_labels(self):
        self.assertEqual(on_labels(EXAMPLE, (4, 6, 9)), tree(6, tree(4), tree(9)))
        self.assertEqual(on_labels(tree(6, tree(4), tree(9)), (1, 2, 3)), EXAMPLE)
        self.assertEqual(on_labels(("row", (a(8), a(3))), (3, 8)), ("row", (a(8), a(3))))
        self.assertEqual(on_labels(a(1), (10**40,)), a(10**40))
        for structure in EMPTY:
            self.assertEqual(on_labels(structure, ()), structure)

    def test_it_is_a_renaming(self):
        for structure, labels in some_structures():
            wanted = (3, 4, 10, 11)[:len(labels)]
            self.assertEqual(on_labels(structure, wanted), renamed(structure, dict(zip(labels, wanted))))

    def test_labels_that_are_none(self):
        for labels in ((2, 1, 3), (1, 2, 2), (3, 2, 1), (0, 1, 2), (-1, 1, 2), (True, 2, 3), (1, 2, "3"), (1, 2, None),
                       (1, 2, 3.0), [1, 2, 3], {1: 1, 2: 2, 3: 3}, None, "123", 3, range(1, 4)):
            self.bad(EXAMPLE, labels)
        for labels in ([], None, {}, "", False):
            self.bad(ONE, labels)

    def test_too_few_and_too_many(self):
        for labels in ((), (1, 2), (1, 2, 3, 4)):
            self.bad(EXAMPLE, labels)
        self.bad(ONE, (1,))

    def test_unlabelled_ones_with_atoms(self):
        for structure in PLAIN:
            for labels in ((), (1,), (1, 2)):
                self.bad(structure, labels)


class Standard(unittest.TestCase):
    def test_it_is_standard(self):
        self.assertEqual(standard(tree(6, tree(4), tree(9))), EXAMPLE)
        self.assertEqual(standard(EXAMPLE), EXAMPLE)
        for structure in EMPTY:
            self.assertEqual(standard(structure), structure)
        for structure, labels in some_structures():
            self.assertTrue(is_standard(standard(structure)))
            self.assertEqual(on_labels(standard(structure), labels), structure)

    def test_unlabelled_ones_with_atoms(self):
        for structure in PLAIN:
            with self.assertRaises(BadLabels):
                standard(structure)


class Erased(unittest.TestCase):
    def test_labels_are_left_out(self):
        self.assertEqual(erased(a(3)), ATOM)
        self.assertEqual(erased(EXAMPLE), tree(None, tree(None), tree(None)))
        for structure in EMPTY + PLAIN:
            self.assertEqual(erased(structure), structure)

    def test_the_order_of_sets_and_rings_follows(self):
        big, small = ("row", (a(1), a(3))), ("row", (a(2),))
        plain_big, plain_small = ("row", (ATOM, ATOM)), ("row", (ATOM,))
        self.assertEqual(erased(("set", (big, small))), ("set", (plain_small, plain_big)))
        self.assertEqual(erased(("ring", (big, small))), ("ring", (plain_small, plain_big)))
        left, right = ("left", ATOM), ("right", ATOM)
        ring = ("ring", (("right", a(1)), ("left", a(2)), ("right", a(3)), ("left", a(4)), ("left", a(5))))
        self.assertEqual(erased(ring), ("ring", (left, left, right, left, right)))

    def test_structures_whose_labels_differ_only(self):
        for structure, labels in some_structures():
            plain = erased(structure)
            self.assertEqual(plain, brute.erased(structure))
            self.assertEqual(labels_of(plain), ())
            self.assertEqual(erased(plain), plain)
            for numbers in list(itertools.permutations(labels))[::4]:
                self.assertEqual(erased(renamed(structure, dict(zip(labels, numbers)))), plain)

    def test_deep_structures(self):
        structure = tree(60)
        for label in range(59, 0, -1):
            structure = ("left", ("right", ("left", ("right", tree(label, structure)))))
        plain = erased(structure)
        self.assertEqual(size_of(plain), 60)
        self.assertEqual(labels_of(renamed(structure, {label: 61 - label for label in range(1, 61)})), tuple(range(1, 61)))
        self.assertTrue(is_standard(labelled_from(plain)))


class LabelledFrom(unittest.TestCase):
    def test_labels_as_the_atoms_stand(self):
        self.assertEqual(labelled_from(ATOM), a(1))
        self.assertEqual(labelled_from(("row", (ATOM, ("left", ATOM), ATOM))), ("row", (a(1), ("left", a(2)), a(3))))
        self.assertEqual(labelled_from(("and", ("set", (ATOM, ATOM)), ATOM)), ("and", ("set", (a(1), a(2))), a(3)))
        self.assertEqual(labelled_from(tree(None, tree(None), tree(None))), tree(1, tree(2), tree(3)))
        for structure in EMPTY:
            self.assertEqual(labelled_from(structure), structure)

    def test_it_comes_back_when_erased(self):
        for structure, labels in some_structures():
            plain = erased(structure)
            found = labelled_from(plain)
            self.assertTrue(is_standard(found))
            self.assertEqual(erased(found), plain)
            self.assertEqual([atom[1] for atom in brute.atoms(found)], list(range(1, len(labels) + 1)))

    def test_asked_twice(self):
        for structure, _ in itertools.islice(some_structures(), 40):
            self.assertEqual(labelled_from(erased(structure)), labelled_from(erased(structure)))


if __name__ == "__main__":
    unittest.main()
