"""Promises 2.8 and 2.9, and the example 2.10: symmetries and labellings."""

import itertools
import math
import unittest

import brute
from samples import ATOM, EXAMPLE, ONE, a, tree
from speciesmill.erase import erased, labelled_from, renamed
from speciesmill.errors import TooGreat
from speciesmill.spec import known
from speciesmill.structure import is_standard, key_of
from speciesmill.symmetry import all_labellings, labellings, symmetries

LEFT, RIGHT = ("left", ATOM), ("right", ATOM)
PAIR = ("row", (ATOM, ATOM))
LEAF = ("and", ATOM, ("set", ()))
# Each with the number of its symmetries.
SOME = [
    (ONE, 1), (ATOM, 1), (LEFT, 1), (("right", ("set", (ATOM, ATOM))), 2), (("and", ATOM, ATOM), 1), (PAIR, 1),
    (("and", ("set", (ATOM,) * 3), ("ring", (ATOM,) * 4)), 24), (("row", (("set", (ATOM,) * 2),) * 3), 8),
    (("set", ()), 1), (("set", (ONE,)), 1), (("ring", (ONE,)), 1), (("row", ()), 1),
    (("set", (ATOM,) * 4), 24), (("set", (LEFT, LEFT, RIGHT, RIGHT, RIGHT)), 12), (("set", (LEFT, RIGHT)), 1),
    (("set", (ATOM, PAIR, PAIR)), 2), (("set", (("set", (ATOM,) * 2),) * 2), 8),
    (("ring", (ATOM,)), 1), (("ring", (ATOM,) * 6), 6), (("ring", (LEFT, RIGHT)), 1),
    (("ring", (LEFT, RIGHT, LEFT, RIGHT)), 2), (("ring", (LEFT, LEFT, RIGHT, RIGHT)), 1),
    (("ring", (LEFT, LEFT, RIGHT) * 3), 3), (("ring", (("set", (ATOM,) * 2),) * 2), 8),
    (("set", (("ring", (ATOM,) * 3), ("ring", (ATOM,) * 3))), 18), (("and", ("ring", (PAIR, PAIR)), ("set", (PAIR, PAIR))), 4),
    (("ring", (("ring", (ATOM,) * 2), ("ring", (ATOM,) * 2), ("ring", (ATOM,) * 2))), 24),
]


def kinds():
    """Small specifications with each kind of structures within one another."""
    words = ("words", "trees", "rooted", "binary", "partitions", "permutations", "necklaces", "maps")
    return brute.random_specs(43, 60, 4) + [known(word) for word in words]


def unlabelled_ones(most):
    """Unlabelled structures of small sizes, each with the list of the standard ones from which it comes."""
    for spec in kinds():
        for name in spec.names():
            for size in range(most + 1):
                found = {}
                for structure in brute.all_on(spec, ("name", name), tuple(range(1, size + 1))):
                    found.setdefault(brute.erased(structure), []).append(structure)
                yield from list(found.items())[:15]


class Symmetries(unittest.TestCase):
    def test_each_kind(self):
        for structure, many in SOME:
            self.assertEqual(symmetries(structure), many, structure)
            self.assertEqual(symmetries(labelled_from(structure)), many, structure)
            self.assertEqual(labellings(structure) * many, math.factorial(len(brute.atoms(structure))))

    def test_members_that_look_different_but_are_the_same_when_erased(self):
        first = ("set", (a(1), ("row", (a(2), a(5)))))
        second = ("set", (("row", (a(3), a(4))), a(6)))
        self.assertEqual(symmetries(("row", (first, second))), 1)
        self.assertEqual(symmetries(("set", (first, second))), 2)
        self.assertEqual(symmetries(("ring", (first, second))), 2)
        first = ("ring", (("left", a(1)), ("right", a(2)), ("right", a(5))))
        second = ("ring", (("right", a(3)), ("right", a(4)), ("left", a(6))))
        self.assertEqual(symmetries(("set", (first, second))), 2)
        other = ("ring", (("right", a(3)), ("left", a(4)), ("left", a(6))))
        self.assertEqual(symmetries(("set", (first, other))), 1)

    def test_against_all_permutations(self):
        asked = 0
        for spec in kinds():
            for labels in ((1, 2, 3), (2, 3, 5, 8), (1, 2, 3, 4, 5)):
                for structure in brute.all_on(spec, ("name", spec.names()[0]), labels)[:60:12]:
                    ways = itertools.permutations(labels)
                    kept = [way for way in ways if renamed(structure, dict(zip(labels, way))) == structure]
                    self.assertEqual(symmetries(structure), len(kept), structure)
                    self.assertEqual(symmetries(erased(structure)), len(kept), structure)
                    asked += 1
        self.assertGreater(asked, 120)

    def test_great_ones(self):
        self.assertEqual(symmetries(("set", (ATOM,) * 60)), math.factorial(60))
        self.assertEqual(labellings(("set", (ATOM,) * 60)), 1)
        self.assertEqual(symmetries(("set", tuple(map(a, range(1, 61))))), math.factorial(60))
        self.assertEqual(symmetries(("ring", (ATOM,) * 60)), 60)
        self.assertEqual(labellings(("ring", (ATOM,) * 60)), math.factorial(59))
        self.assertEqual(symmetries(("ring", (LEFT, RIGHT, RIGHT) * 20)), 20)
        self.assertEqual(symmetries(("row", (ATOM,) * 60)), 1)
        self.assertEqual(symmetries(tree(None, *[tree(None, LEAF)] * 29)), math.factorial(29))
        halves = ("set", (("set", (ATOM,) * 30),) * 2)
        self.assertEqual(symmetries(halves), 2 * math.factorial(30) ** 2)
        path = LEAF
        for _ in range(59):
            path = ("left", ("right", ("left", ("right", tree(None, path)))))
        self.assertEqual((symmetries(path), labellings(path)), (1, math.factorial(60)))

    def test_asked_twice(self):
        for structure, many in SOME:
            self.assertEqual((symmetries(structure), symmetries(structure)), (many, many))


class Labellings(unittest.TestCase):
    def test_all_of_them_in_order(self):
        for plain, structures in unlabelled_ones(4):
            wanted = sorted(structures, key=brute.key)
            self.assertEqual(labellings(plain), len(wanted))
            self.assertEqual(all_labellings(plain), wanted)
            self.assertEqual(labellings(wanted[-1]), len(wanted))
            self.assertEqual(all_labellings(wanted[-1]), wanted)

    def test_labels_other_than_the_first_numbers_do_not_matter(self):
        self.assertEqual(all_labellings(tree(9, tree(20), tree(3))), all_labellings(EXAMPLE))
        self.assertEqual(all_labellings(a(5)), [a(1)])

    def test_members_of_one_size_but_of_other_sorts(self):
        structures = [
            ("set", (("left", PAIR), ("right", PAIR), ATOM)), ("set", (LEFT, LEFT, RIGHT, ("left", ("left", ATOM)))),
            ("ring", (("left", PAIR), ATOM, ("right", PAIR))), ("ring", (LEFT, RIGHT, RIGHT, LEFT, RIGHT)),
            ("ring", (LEFT, ("right", PAIR), RIGHT, ("left", PAIR))),
            ("set", (("left", ("set", (LEFT, RIGHT))), ("left", ("set", (RIGHT, RIGHT))), ("right", ("ring", (LEFT, RIGHT))))),
        ]
        for structure in structures:
            found = all_labellings(structure)
            self.assertEqual(found, sorted(found, key=brute.key))
            self.assertEqual(len({key_of(one) for one in found}), labellings(structure))
            for one in found:
                self.assertEqual(one, brute.plain_form(one))
                self.assertTrue(is_standard(one))
                self.assertEqual(brute.erased(one), brute.plain_form(structure))

    def test_seven_atoms(self):
        for structure, many in ((("row", (ATOM,) * 7), 5040), (("ring", (ATOM,) * 7), 720), (("set", (ATOM,) * 7), 1),
                                (("ring", (LEFT, LEFT, LEFT, RIGHT, RIGHT, LEFT, RIGHT)), 5040),
                                (tree(None, LEAF, tree(None, LEAF, LEAF), tree(None, LEAF)), 2520)):
            found = all_labellings(structure)
            self.assertEqual((labellings(structure), len(found)), (many, many))
            keys = [brute.key(one) for one in found]
            self.assertTrue(all(keys[at] < keys[at + 1] for at in range(len(keys) - 1)))
            self.assertEqual({erased(one) for one in found[::50]}, {erased(structure)})

    def test_no_atoms(self):
        for structure in (ONE, ("set", ()), ("row", (ONE,)), ("left", ("ring", (ONE,)))):
            self.assertEqual((labellings(structure), all_labellings(structure)), (1, [structure]))

    def test_too_great(self):
        for structure in (("set", (ATOM,) * 8), ("row", tuple(map(a, range(1, 9)))), ("ring", (ATOM,) * 60)):
            with self.assertRaises(TooGreat):
                all_labellings(structure)

    def test_what_is_returned_is_new(self):
        found = all_labellings(EXAMPLE)
        found.clear()
        self.assertEqual(len(all_labellings(EXAMPLE)), 3)


class TheExample(unittest.TestCase):
    def test_all_that_it_says(self):
        self.assertEqual(symmetries(EXAMPLE), 2)
        self.assertEqual(labellings(EXAMPLE), 3)
        self.assertEqual(all_labellings(EXAMPLE), [tree(1, tree(2), tree(3)), EXAMPLE, tree(3, tree(1), tree(2))])
        self.assertEqual(erased(EXAMPLE), ("and", ("atom",), ("set", (LEAF, LEAF))))
        wanted = ((1, (2,)), (), (((1, (1,)), ((1, (1,)), (), ())), ((1, (3,)), ((1, (3,)), (), ()))))
        self.assertEqual(key_of(EXAMPLE), wanted)


if __name__ == "__main__":
    unittest.main()
