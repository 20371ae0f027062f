"""Promises 2.1 to 2.5 and the key of the example 2.10: structures as tuples."""

import random
import unittest

import brute
from speciesmill.errors import BadCounts, NoSuchName, NotFounded
from speciesmill.spec import Spec, known
from speciesmill.structure import is_standard, is_structure, key_of, labels_of, one_form, size_of

ONE, ATOM = ("one",), ("atom",)
KEY_ATOM = ((1, ()), ())


def a(label):
    return ("atom", label)


def leaf(label=None):
    """A tree of "rooted" without branches."""
    return tree(label)


def tree(label, *branches):
    """A tree of "rooted"; without a label if it is None."""
    return ("and", ATOM if label is None else a(label), ("set", branches))


EXAMPLE = tree(2, leaf(1), leaf(3))
R, N = ("name", "R"), ("name", "N")
ROOTED = known("rooted")
SOME = {
    "one": (ONE, 0, ()),
    "atom": (a(7), 1, (7,)),
    "plain atom": (ATOM, 1, ()),
    "left": (("left", a(2)), 1, (2,)),
    "right": (("right", ONE), 0, ()),
    "and": (("and", a(3), ("and", a(1), ONE)), 2, (1, 3)),
    "empty row": (("row", ()), 0, ()),
    "row": (("row", (a(5), ("left", a(2)), a(9))), 3, (2, 5, 9)),
    "ring": (("ring", (a(1), a(3), a(2))), 3, (1, 2, 3)),
    "plain ring": (("ring", (ATOM, ATOM)), 2, ()),
    "empty member": (("set", (ONE,)), 0, ()),
    "example": (EXAMPLE, 3, (1, 2, 3)),
}


def path(labels):
    """A tree of "rooted" without forks."""
    found = leaf(labels[-1])
    for label in reversed(labels[:-1]):
        found = tree(label, found)
    return found


class SizesAndLabels(unittest.TestCase):
    def test_sizes(self):
        for word, (structure, size, _) in SOME.items():
            self.assertEqual(size_of(structure), size, word)

    def test_labels(self):
        for word, (structure, _, labels) in SOME.items():
            self.assertEqual(labels_of(structure), labels, word)

    def test_standard_ones(self):
        for structure in (EXAMPLE, a(1), ("row", (a(2), a(3), a(1))), ONE, ("set", ()), ("right", ("row", ()))):
            self.assertIs(is_standard(structure), True, structure)
        for structure in (a(2), tree(2, leaf(3)), ("row", (a(1), a(3))), ("row", (a(2), a(4), a(1)))):
            self.assertIs(is_standard(structure), False, structure)
        for structure in (ATOM, tree(None, leaf()), ("row", (ATOM, ATOM))):
            self.assertIs(is_standard(structure), False, structure)

    def test_sixty_atoms(self):
        labels = list(range(60, 0, -1))
        for structure in (path(labels), ("row", tuple(a(label) for label in labels))):
            self.assertEqual(size_of(structure), 60)
            self.assertEqual(labels_of(structure), tuple(range(1, 61)))
            self.assertTrue(is_standard(structure))
        self.assertEqual(size_of(path([None] * 60)), 60)
        self.assertEqual(labels_of(path([None] * 60)), ())
        self.assertFalse(is_standard(path([None] * 60)))
        self.assertFalse(is_standard(path(labels[:-1])))

    def test_great_labels(self):
        self.assertEqual(labels_of(("row", (a(10**40), a(3)))), (3, 10**40))

    def test_asked_twice(self):
        for structure, size, labels in SOME.values():
            for _ in range(2):
                self.assertEqual((size_of(structure), labels_of(structure)), (size, labels))
                self.assertEqual(key_of(structure), brute.key(structure))


class Keys(unittest.TestCase):
    def test_plain_ones(self):
        for structure in (ONE, a(4), ATOM, ("row", ()), ("set", ())):
            self.assertEqual(key_of(structure), ())

    def test_or(self):
        self.assertEqual(key_of(("left", a(1))), (0, ()))
        self.assertEqual(key_of(("right", ("left", ONE))), (1, (0, ())))

    def test_and(self):
        self.assertEqual(key_of(("and", a(3), ONE)), ((1, (3,)), (), ()))
        self.assertEqual(key_of(("and", ("left", ATOM), ("right", ATOM))), ((1, ()), (0, ()), (1, ())))
        self.assertEqual(key_of(("and", ("row", (a(5), a(2))), a(1)))[0], (2, (2, 5)))

    def test_rows_and_sets(self):
        for word in ("row", "set"):
            self.assertEqual(key_of((word, (a(2), ("left", a(5))))), (((1, (2,)), ()), ((1, (5,)), (0, ()))))
            self.assertEqual(key_of((word, (ATOM, ATOM))), (KEY_ATOM, KEY_ATOM))
            self.assertEqual(key_of((word, (ONE,))), (((0, ()), ()),))

    def test_rings(self):
        self.assertEqual(key_of(("ring", (a(1), a(3)))), (((1, (1,)), ()), ((1, (3,)), ())))
        self.assertEqual(key_of(("ring", (ATOM, ATOM, ATOM))), (3, (KEY_ATOM, KEY_ATOM, KEY_ATOM)))
        self.assertEqual(key_of(("ring", (ONE,))), (1, (((0, ()), ()),)))

    def test_the_example(self):
        wanted = ((1, (2,)), (), (((1, (1,)), ((1, (1,)), (), ())), ((1, (3,)), ((1, (3,)), (), ()))))
        self.assertEqual(key_of(EXAMPLE), wanted)
        plain = tree(None, leaf(), leaf())
        member = ((1, ()), ((1, ()), (), ()))
        self.assertEqual(key_of(plain), ((1, ()), (), (member, member)))

    def test_different_ones_have_different_keys(self):
        for spec in brute.random_specs(5, 40, 4) + [known("maps"), known("binary"), known("necklaces")]:
            for name in spec.names():
                found = brute.all_on(spec, ("name", name), (2, 5, 9))
                self.assertEqual(len({key_of(structure) for structure in found}), len(found))
                plain = {brute.erased(structure) for structure in found}
                self.assertEqual(len({key_of(structure) for structure in plain}), len(plain))


class OneForm(unittest.TestCase):
    def test_labelled_sets(self):
        self.assertEqual(one_form(("set", (a(3), a(1), a(2)))), ("set", (a(1), a(2), a(3))))
        first, second = ("row", (a(9), a(1))), ("row", (a(2), a(3)))
        self.assertEqual(one_form(("set", (second, first))), ("set", (first, second)))
        big, small = ("row", (a(4), a(1), a(7))), a(2)
        self.assertEqual(one_form(("set", (("left", small), ("right", big)))), ("set", (("right", big), ("left", small))))

    def test_labelled_rings(self):
        self.assertEqual(one_form(("ring", (a(3), a(1), a(2)))), ("ring", (a(1), a(2), a(3))))
        self.assertEqual(one_form(("ring", (a(2), a(1), a(3)))), ("ring", (a(1), a(3), a(2))))
        least = ("row", (a(8), a(1)))
        self.assertEqual(one_form(("ring", (("row", (a(2),)), least))), ("ring", (least, ("row", (a(2),)))))

    def test_unlabelled_sets(self):
        small, big = ("row", (ATOM,)), ("row", (ATOM, ATOM))
        self.assertEqual(one_form(("set", (big, small, big))), ("set", (small, big, big)))
        left, right = ("left", ATOM), ("right", ATOM)
        self.assertEqual(one_form(("set", (right, left, right, left))), ("set", (left, left, right, right)))
        # The size comes before the key: the greater one is behind, though "left" comes before "right".
        self.assertEqual(one_form(("set", (("left", big), right))), ("set", (right, ("left", big))))

    def test_a_key_that_ends_earlier_comes_first(self):
        without, within = ("and", ATOM, ("row", ())), ("and", ATOM, ("row", (ONE,)))
        self.assertEqual(one_form(("set", (within, without))), ("set", (without, within)))
        self.assertEqual(one_form(("ring", (within, within, without))), ("ring", (without, within, within)))
        wrapped = [("and", ("right", one), ONE) for one in (within, without)]
        self.assertEqual(one_form(("set", tuple(wrapped))), ("set", (wrapped[1], wrapped[0])))

    def test_unlabelled_rings(self):
        left, right = ("left", ATOM), ("right", ATOM)
        self.assertEqual(one_form(("ring", (right, left, left))), ("ring", (left, left, right)))
        self.assertEqual(one_form(("ring", (left, right, left))), ("ring", (left, left, right)))
        self.assertEqual(one_form(("ring", (left, right, right, left, right))), ("ring", (left, right, left, right, right)))
        self.assertEqual(one_form(("ring", (right, left, right, left))), ("ring", (left, right, left, right)))

    def test_rows_stay(self):
        for row in (("row", (a(3), a(1), a(2))), ("row", (("right", ATOM), ("left", ATOM)))):
            self.assertEqual(one_form(row), row)

    def test_deep_within(self):
        wrong = ("and", ("left", ("set", (a(4), a(2)))), ("row", (("ring", (a(7), a(1))), ("ring", (a(3),)))))
        right = ("and", ("left", ("set", (a(2), a(4)))), ("row", (("ring", (a(1), a(7))), ("ring", (a(3),)))))
        self.assertEqual(one_form(wrong), right)
        fork = tree(None, leaf(), path([None, None]))
        wrong = tree(None, tree(None, path([None, None]), leaf()), leaf())
        self.assertEqual(one_form(wrong), tree(None, leaf(), fork))

    def test_members_are_compared_in_their_one_form(self):
        left, right = ("left", ATOM), ("right", ATOM)
        first, second = ("set", (left, right)), ("set", (right, right))
        mixed = ("set", (right, left))
        self.assertEqual(one_form(("set", (second, mixed, first))), ("set", (first, first, second)))

    def test_one_member_or_none(self):
        for structure in (("set", ()), ("set", (ONE,)), ("ring", (ONE,)), ("set", (a(1),)), ("ring", (ATOM,)), ONE, ATOM):
            self.assertEqual(one_form(structure), structure)

    def test_nine_and_ten_members(self):
        source = random.Random(4)
        for many in (9, 10):
            labels = [source.randrange(1, 1000) * 10 + at for at in range(many)]
            self.assertEqual(one_form(("set", tuple(map(a, labels)))), ("set", tuple(map(a, sorted(labels)))))
            ring = ("ring", tuple(map(a, labels)))
            self.assertEqual(one_form(ring), brute.plain_form(ring))
            for word in ("set", "ring"):
                sides = [source.choice([("left", ATOM), ("right", ATOM)]) for _ in range(many)]
                self.assertEqual(one_form((word, tuple(sides))), brute.plain_form((word, tuple(sides))))
        rows = [("row", (ATOM,) * many) for many in (10, 9, 2, 1)]
        self.assertEqual(one_form(("set", tuple(rows))), ("set", tuple(reversed(rows))))

    def test_of_a_structure_it_is_the_structure(self):
        source = random.Random(1)
        for spec in brute.random_specs(8, 60, 4) + [known("maps"), known("permutations"), known("rooted")]:
            for name in spec.names():
                for structure in brute.all_on(spec, ("name", name), (1, 4, 6))[:40]:
                    for form in (structure, brute.erased(structure)):
                        self.assertEqual(one_form(form), form)
                        self.assertEqual(one_form(brute.mixed(form, source)), form)

    def test_structures_nested_very_deep(self):
        for labels in (list(range(1, 61)), [None] * 60):
            structure = path(labels)
            for _ in range(3000):
                structure = ("left", structure)
            found = one_form(("set", (structure, structure) if labels[0] is None else (structure,)))
            self.assertEqual(size_of(found), 120 if labels[0] is None else 60)
            self.assertEqual(key_of(structure)[0], 0)


class IsStructure(unittest.TestCase):
    def yes(self, expression, value, labelled=True, spec=ROOTED):
        self.assertIs(is_structure(spec, expression, value, labelled), True, value)

    def no(self, expression, value, labelled=True, spec=ROOTED):
        self.assertIs(is_structure(spec, expression, value, labelled), False, value)

    def test_each_kind(self):
        self.yes(ONE, ONE)
        self.yes(ONE, ONE, False)
        self.yes(ATOM, a(5))
        self.yes(ATOM, ATOM, False)
        self.yes(("or", ONE, ATOM), ("left", ONE))
        self.yes(("or", ONE, ATOM), ("right", a(1)))
        self.yes(("and", ATOM, ATOM), ("and", a(2), a(1)))
        self.yes(("row", ATOM, 0, None), ("row", (a(2), a(1))))
        self.yes(("set", ATOM, 0, None), ("set", (a(1), a(2))))
        self.yes(("ring", ATOM, 1, None), ("ring", (a(1), a(3), a(2))))
        self.yes(R, EXAMPLE)
        self.yes(R, tree(None, leaf(), leaf()), False)

    def test_structures_without_atoms_are_both(self):
        for labelled in (True, False):
            self.yes(("row", ATOM, 0, 3), ("row", ()), labelled)
            self.yes(("set", ONE, 0, 1), ("set", (ONE,)), labelled)
            self.yes(("ring", ONE, 1, 1), ("ring", (ONE,)), labelled)

    def test_none_has_no_structure(self):
        for value in (("none",), ("none", 1), ONE, ATOM, a(1), (), None):
            self.no(("none",), value)
            self.no(("none",), value, False)

    def test_another_word(self):
        self.no(ONE, ATOM, False)
        self.no(ATOM, ONE)
        self.no(("or", ATOM, ATOM), ("or", a(1)))
        self.no(("or", ATOM, ATOM), a(1))
        self.no(("or", ONE, ATOM), ("right", ONE))
        self.no(("or", ONE, ATOM), ("left", a(1)))
        self.no(("and", ATOM, ATOM), ("row", (a(1), a(2))))
        self.no(("and", ATOM, ATOM), ("left", a(1), a(2)))
        for word in ("row", "set", "ring"):
            for other in ("row", "set", "ring", "and", "", "Row"):
                if other != word:
                    self.no((word, ATOM, 1, None), (other, (a(1),)))

    def test_a_part_too_few_or_too_many(self):
        self.no(ONE, ("one", 1))
        self.no(ONE, ("one", ONE))
        self.no(ATOM, ("atom", 1, 2))
        self.no(ATOM, ())
        self.no(("or", ATOM, ATOM), ("left",))
        self.no(("or", ATOM, ATOM), ("left", a(1), a(2)))
        self.no(("and", ATOM, ATOM), ("and", a(1)))
        self.no(("and", ATOM, ATOM), ("and", a(1), a(2), a(3)))
        self.no(("row", ATOM, 0, None), ("row",))
        self.no(("row", ATOM, 0, None), ("row", (), ()))
        self.no(("row", ATOM, 0, None), ("row", a(1), a(2)))

    def test_labels(self):
        pair = ("and", ATOM, ATOM)
        self.no(pair, ("and", a(1), a(1)))
        self.no(("row", ATOM, 0, None), ("row", (a(4), a(2), a(4))))
        self.no(("set", ATOM, 0, None), ("set", (a(4), a(4))))
        self.no(R, tree(1, leaf(2), leaf(2)))
        for label in (0, -1, True, False, None, "1", 1.0, (1,), [1], b"1"):
            self.no(ATOM, a(label))
            self.no(pair, ("and", a(2), a(label)))
            self.no(ATOM, a(label), False)
        self.yes(ATOM, a(10**30))

    def test_labelled_beside_unlabelled(self):
        for labelled in (True, False):
            self.no(("and", ATOM, ATOM), ("and", a(1), ATOM), labelled)
            self.no(("and", ATOM, ATOM), ("and", ATOM, a(1)), labelled)
            self.no(R, tree(1, leaf()), labelled)
        self.no(ATOM, ATOM)
        self.no(ATOM, a(1), False)
        self.no(R, EXAMPLE, False)
        self.no(R, tree(None, leaf(), leaf()))

    def test_the_order_of_members(self):
        self.no(("set", ATOM, 0, None), ("set", (a(2), a(1))))
        self.no(("ring", ATOM, 1, None), ("ring", (a(2), a(1))))
        self.no(("ring", ATOM, 1, None), ("ring", (a(3), a(1), a(2))))
        self.no(R, tree(2, leaf(3), leaf(1)))
        self.yes(R, tree(None, leaf(), path([None, None])), False)
        self.no(R, tree(None, path([None, None]), leaf()), False)
        left, right = ("left", ATOM), ("right", ATOM)
        self.yes(N, ("ring", (left, left, right)), False, known("necklaces"))
        self.no(N, ("ring", (left, right, left)), False, known("necklaces"))
        self.no(("row", R, 0, None), ("row", (leaf(7), tree(2, leaf(3), leaf(1)))))

    def test_the_number_of_members(self):
        members = tuple(map(a, range(1, 9)))
        for word in ("row", "set", "ring"):
            for many in range(1, 8):
                for least, most in ((2, 4), (3, 3), (1, None), (5, None), (1, 1)):
                    fits = many >= least and (most is None or many <= most)
                    self.assertIs(is_structure(ROOTED, (word, ATOM, least, most), (word, members[:many]), True), fits)
        self.no(("ring", ATOM, 1, None), ("ring", ()))
        self.no(("set", ATOM, 1, None), ("set", ()))
        self.yes(("set", ATOM, 0, 0), ("set", ()))
        self.no(("set", ATOM, 0, 0), ("set", (a(1),)))

    def test_lists_and_values_of_other_kinds(self):
        for value in (None, True, 0, "atom", "one", b"one", [], ["one"], {}, {"one": 1}, (), (1,), (None,), (ONE,), object()):
            for expression in (ONE, ATOM, ("or", ONE, ATOM), ("and", ATOM, ONE), ("row", ATOM, 0, None), R):
                self.no(expression, value)
                self.no(expression, value, False)
        self.no(("and", ATOM, ATOM), ["and", a(1), a(2)])
        self.no(("and", ATOM, ATOM), ("and", ["atom", 1], a(2)))
        self.no(("row", ATOM, 0, None), ("row", [a(1)]))
        self.no(("row", ATOM, 0, None), ("row", [a(1), a(2)]))
        self.no(("row", ATOM, 0, None), ("row", None))
        self.no(("row", ATOM, 0, None), ("row", "atom"))
        self.no(("set", ATOM, 0, None), ("set", {1: a(1)}))
        self.no(("or", ATOM, ONE), ("left", None))
        self.no(("or", ATOM, ONE), (0, a(1)))
        self.no(("or", ATOM, ONE), (["left"], a(1)))

    def test_values_nested_far_too_deep(self):
        value = leaf(1)
        for label in range(2, 60):
            value = tree(label, value)
        for _ in range(100000):
            value = ("left", value)
        self.no(R, value)
        self.no(("or", R, R), value)

    def test_sixty_atoms(self):
        self.yes(R, path(list(range(60, 0, -1))))
        self.yes(R, path([None] * 60), False)
        self.yes(("set", ATOM, 0, None), ("set", tuple(map(a, range(1, 61)))))
        self.yes(("ring", ATOM, 30, None), ("ring", (ATOM,) * 60), False)

    def test_all_structures_and_their_neighbours(self):
        source = random.Random(2)
        for spec in brute.random_specs(21, 40, 4) + [known("maps"), known("permutations")]:
            for name in spec.names():
                for structure in brute.all_on(spec, ("name", name), (1, 2, 3))[:25]:
                    for form, labelled in ((structure, True), (brute.erased(structure), False)):
                        self.yes(("name", name), form, labelled, spec)
                        self.no(("name", name), form, not labelled, spec)
                        other = brute.mixed(form, source)
                        self.assertEqual(is_structure(spec, ("name", name), other, labelled), other == form)

    def test_asked_twice(self):
        for _ in range(2):
            self.yes(R, EXAMPLE)
            self.no(R, tree(2, leaf(3), leaf(1)))

    def test_errors_in_their_order(self):
        endless = ("row", ONE, 0, None)
        missing = ("name", "X")
        for spec in (Spec({"A": ("name", "A")}), Spec({"A": endless})):
            for expression in (ONE, missing, endless, ("or", missing, endless), ("name", "A")):
                with self.assertRaises(NotFounded):
                    is_structure(spec, expression, ONE, True)
        for expression in (missing, ("and", endless, missing), ("set", missing, 0, 0)):
            with self.assertRaises(NoSuchName):
                is_structure(ROOTED, expression, None, False)
        for expression in (endless, ("or", ONE, ("ring", ONE, 1, 2)), ("set", ("set", ATOM, 0, 0), 1, None)):
            with self.assertRaises(BadCounts):
                is_structure(ROOTED, expression, ("left", ONE), True)


if __name__ == "__main__":
    unittest.main()
