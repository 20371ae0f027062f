"""Promises 6.7 to 6.9: specifications with one atom marked, and with other structures in the place of atoms."""

import itertools
import math
import unittest

import brute
from samples import ATOM, KINDS, ONE, TWO, WORDS
from speciesmill.burnside import coloured
from speciesmill.changed import marked, replaced
from speciesmill.counts import labelled_counts, unlabelled_counts
from speciesmill.cycleindex import cycle_sum
from speciesmill.errors import BadSpec, NotFounded
from speciesmill.founded import fault
from speciesmill.shapes import weight
from speciesmill.spec import Spec, depth, is_expression, known

MANY = ("row", "set", "ring")


def d(e):
    """D, word for word as the document tells it."""
    if e in (("none",), ("one",)):
        return ("none",)
    if e == ("atom",):
        return ("atom",)
    if e[0] == "name":
        return ("name", e[1] + "m")
    if e[0] == "or":
        return ("or", d(e[1]), d(e[2]))
    if e[0] == "and":
        return ("or", ("and", d(e[1]), e[2]), ("and", e[1], d(e[2])))
    word, a, least, most = e
    if most == 0:
        return ("none",)
    fewer = None if most is None else most - 1
    if word == "set":
        return ("and", d(a), ("set", a, max(0, least - 1), fewer))
    if word == "ring":
        return ("and", d(a), ("row", a, max(0, least - 1), fewer))
    assert most is None and least in (0, 1)
    return ("and", ("row", a, 0, None), ("and", d(a), ("row", a, 0, None)))


def has_bad_row(e):
    if e[0] == "row" and e[3] != 0 and (e[3] is not None or e[2] > 1):
        return True
    parts = e[1:3] if e[0] in ("or", "and") else e[1:2] if e[0] in MANY else ()
    return any(has_bad_row(part) for part in parts)


def nested(levels, ors=0):
    """An expression of which the marked one is nested 2 * levels + ors deep."""
    e = ATOM
    for _ in range(levels):
        e = ("and", e, ATOM)
    for _ in range(ors):
        e = ("or", e, ATOM)
    return e


class Marked(unittest.TestCase):
    def same(self, spec, most):
        """Whether the marked specification is as it is told, and has the right numbers."""
        given = {name: spec.expression(name) for name in spec.names()}
        result = marked(spec)
        self.assertIsInstance(result, Spec)
        self.assertEqual(result.names(), sorted(spec.names() + [name + "m" for name in spec.names()]))
        self.assertIsNone(fault(result))
        for name in spec.names():
            self.assertEqual(result.expression(name), given[name])
            self.assertEqual(result.expression(name + "m"), d(given[name]))
            wanted = [size * many for size, many in enumerate(labelled_counts(spec, name, most))]
            self.assertEqual(labelled_counts(result, name + "m", most), wanted, given)
        self.assertEqual({name: spec.expression(name) for name in spec.names()}, given)
        self.assertEqual([marked(spec).expression(name) for name in result.names()], [result.expression(name) for name in result.names()])

    def test_each_kind_of_expression(self):
        bad = 0
        for expression in KINDS:
            spec = Spec({"A": expression})
            if has_bad_row(expression):
                bad += 1
                with self.assertRaises(BadSpec, msg=expression):
                    marked(spec)
            else:
                self.same(spec, 12)
        self.assertGreater(bad, 3)

    def test_all_bounds(self):
        for word, member in itertools.product(("set", "ring"), (ATOM, TWO, ("set", ATOM, 1, None), ("ring", TWO, 1, 3), ("row", ATOM, 1, None))):
            for least in range(1 if word == "ring" else 0, 5):
                for most in (None, *range(least, 6)):
                    self.same(Spec({"A": (word, member, least, most)}), 10)

    def test_rows(self):
        for member in (ATOM, TWO, ("set", ATOM, 1, None), ("row", TWO, 1, None)):
            for least, most in itertools.product(range(5), (None, *range(6))):
                if most is not None and most < least:
                    continue
                for expression in (("row", member, least, most), ("or", ATOM, ("set", ("row", member, max(least, 1), most), 1, 1)) if most != 0 else ONE):
                    if most == 0 or (most is None and least < 2):
                        self.same(Spec({"A": expression}), 10)
                    else:
                        with self.assertRaises(BadSpec):
                            marked(Spec({"A": expression}))

    def test_rows_anywhere(self):
        bad = ("row", ATOM, 2, None)
        for expression in (("row", bad, 0, 0), ("set", bad, 0, 0), ("set", bad, 0, None), ("and", ("none",), bad), ("or", ATOM, ("ring", bad, 1, None)),
                           ("row", ("row", ATOM, 1, 1), 0, 0), ("row", ("row", ATOM, 0, 30), 0, 1)):
            for equations in ({"A": expression}, {"A": ATOM, "B": expression}):
                with self.assertRaises(BadSpec):
                    marked(Spec(equations))
        self.same(Spec({"A": ("row", ("row", ATOM, 0, 0), 0, 0)}), 5)

    def test_members_without_atoms(self):
        empty = ("or", ONE, TWO)
        for expression in (("set", empty, 0, 1), ("set", empty, 1, 1), ("ring", empty, 1, 1), ("and", ("set", empty, 0, 1), ("ring", empty, 1, 1)),
                           ("set", ("and", ATOM, ("set", empty, 1, 1)), 2, 3)):
            self.same(Spec({"A": expression}), 10)

    def test_known_specifications(self):
        for word in WORDS:
            self.same(known(word), 15)

    def test_mixed_specifications(self):
        tried = 0
        for spec in brute.random_specs(67, 150):
            if any(has_bad_row(spec.expression(name)) for name in spec.names()):
                with self.assertRaises(BadSpec):
                    marked(spec)
            else:
                tried += 1
                self.same(spec, 8)
        self.assertGreater(tried, 60)

    def test_six_and_seven_names(self):
        for many in (6, 7):
            spec = Spec({name: ("name", "G") if name != "G" else ATOM for name in "GABCDEF"[:many]})
            if many == 6:
                self.same(spec, 3)
            else:
                with self.assertRaises(BadSpec):
                    marked(spec)

    def test_long_names(self):
        self.same(Spec({"Abcdefg": ATOM}), 3)
        for equations in ({"Abcdefgh": ATOM}, {"A": ATOM, "Abcdefgh": ONE}):
            with self.assertRaises(BadSpec):
                marked(Spec(equations))

    def test_names_that_are_there(self):
        for equations in ({"A": ATOM, "Am": ATOM}, {"Am": ("name", "B"), "A": ONE, "B": ATOM}, {"Amm": ONE, "Am": ONE}):
            with self.assertRaises(BadSpec):
                marked(Spec(equations))
        self.same(Spec({"Am": ATOM, "Bm": ("name", "Am")}), 3)

    def test_depth(self):
        for levels, ors in ((5, 0), (4, 2), (4, 1), (1, 8), (0, 10), (0, 9)):
            expression = nested(levels, ors)
            self.assertEqual(depth(d(expression)), 2 * levels + ors)
            self.same(Spec({"A": expression}), 4)
        for levels, ors in ((5, 1), (4, 3), (6, 0), (1, 9), (9, 0)):
            expression = nested(levels, ors)
            self.assertTrue(is_expression(expression))
            for equations in ({"A": expression}, {"A": ATOM, "B": expression}):
                with self.assertRaises(BadSpec):
                    marked(Spec(equations))

    def test_not_well_founded_comes_first(self):
        for equations in ({"A": ("name", "A")}, {"A": ("name", "A"), "Am": ATOM}, {"A": ("set", ONE, 0, None)}, {"Abcdefgh": ("name", "Abcdefgh")},
                          {"A": ("name", "A"), "B": ("row", ATOM, 2, 3)}, {"A": ("name", "A"), "B": nested(9)},
                          {name: ("name", "A") for name in "ABCDEFG"}):
            with self.assertRaises(NotFounded):
                marked(Spec(equations))


class Replaced(unittest.TestCase):
    def test_atoms_in_all_places(self):
        pair = ("and", ATOM, ("set", ATOM, 1, None))
        equations = {
            "A": ATOM, "B": ("or", ATOM, ("and", ATOM, ("name", "A"))), "C": ("row", ATOM, 0, 3), "D": ("set", ("ring", ATOM, 1, None), 2, None),
            "E": ("none",), "F": ONE, "G": ("or", ("row", ("and", ONE, ATOM), 1, 1), ("name", "C")),
        }
        wanted = {
            "A": pair, "B": ("or", pair, ("and", pair, ("name", "A"))), "C": ("row", pair, 0, 3), "D": ("set", ("ring", pair, 1, None), 2, None),
            "E": ("none",), "F": ONE, "G": ("or", ("row", ("and", ONE, pair), 1, 1), ("name", "C")),
        }
        spec = Spec(equations)
        result = replaced(spec, pair)
        self.assertIsInstance(result, Spec)
        self.assertEqual({name: result.expression(name) for name in result.names()}, wanted)
        self.assertEqual({name: spec.expression(name) for name in spec.names()}, equations)

    def test_the_result_is_another_specification(self):
        spec = known("rooted")
        for expression in (ATOM, TWO, ("name", "R"), ONE):
            result = replaced(spec, expression)
            self.assertIsNot(result, spec)
            self.assertEqual(result.expression("R"), ("and", expression, ("set", ("name", "R"), 0, None)))
            self.assertEqual(spec.expression("R"), known("rooted").expression("R"))
        self.assertEqual(replaced(spec, ATOM).expression("R"), replaced(spec, ATOM).expression("R"))

    def test_names(self):
        spec = Spec({"A": ("and", ATOM, ("name", "B")), "B": ONE})
        result = replaced(spec, ("or", ("name", "A"), ("name", "B")))
        self.assertEqual(result.expression("A"), ("and", ("or", ("name", "A"), ("name", "B")), ("name", "B")))
        for expression in (("name", "C"), ("or", ATOM, ("name", "C")), ("set", ("and", ("name", "A"), ("name", "Ab")), 0, 3)):
            with self.assertRaises(BadSpec):
                replaced(spec, expression)
            # A specification without atoms has no place for it.
            with self.assertRaises(BadSpec):
                replaced(Spec({"A": ONE, "B": ("name", "A")}), expression)

    def test_depth(self):
        def deep(levels):
            e = ATOM
            for _ in range(levels):
                e = ("or", e, ONE)
            return e

        for levels in range(11):
            for more in range(11):
                spec = Spec({"A": deep(levels), "B": ATOM if levels == 10 else ONE})
                if levels + more <= 10:
                    self.assertEqual(depth(replaced(spec, deep(more)).expression("A")), levels + more)
                else:
                    with self.assertRaises(BadSpec):
                        replaced(spec, deep(more))
        self.assertEqual(replaced(Spec({"A": ONE}), deep(10)).expression("A"), ONE)

    def test_without_atoms(self):
        spec = Spec({"A": ("or", ONE, ("set", ("name", "B"), 0, 1)), "B": ("none",)})
        for expression in (ATOM, ONE, ("name", "A"), TWO):
            result = replaced(spec, expression)
            self.assertEqual([result.expression(name) for name in "AB"], [spec.expression(name) for name in "AB"])
        result = replaced(known("trees"), ONE)
        self.assertEqual(result.expression("T"), ("and", ONE, ("row", ("name", "T"), 0, None)))
        self.assertIsNotNone(fault(result))

    def test_not_well_founded_ones_are_replaced_as_well(self):
        result = replaced(Spec({"A": ("or", ATOM, ("name", "A"))}), TWO)
        self.assertEqual(result.expression("A"), ("or", TWO, ("name", "A")))

    def test_well_founded_ones_stay_so(self):
        for spec in brute.random_specs(68, 60, 2):
            for expression in (TWO, ("and", ATOM, ("row", ATOM, 0, None)), ("ring", TWO, 2, 3), ("none",)):
                self.assertIsNone(fault(replaced(spec, expression)))


def from_cycle_sums(spec, name, counts, most):
    """The unlabelled counts with structures of given counts in the place of atoms, word for word as 6.9 tells."""
    total = [0] * (most + 1)
    for n in range(most + 1):
        for shape, many in cycle_sum(spec, name, n):
            product = [1] + [0] * most
            for length in shape:
                spread = [counts[at // length] if at % length == 0 else 0 for at in range(most + 1)]
                product = [sum(product[at] * spread[to - at] for at in range(to + 1)) for to in range(most + 1)]
            share = many * math.factorial(most) // weight(shape)
            total = [one + share * other for one, other in zip(total, product)]
    return [number // math.factorial(most) for number in total]


class WhatHolds(unittest.TestCase):
    def test_replaced_by_cycle_sums(self):
        plain = Spec({"X": ONE})
        for word in WORDS:
            spec = known(word)
            for expression in (ATOM, TWO, ("and", ATOM, ATOM), ("set", ATOM, 1, None), ("ring", TWO, 2, None), ("or", ATOM, ("row", ATOM, 3, 4)), ("none",)):
                counts = unlabelled_counts(replaced(Spec({"X": ATOM}), expression), "X", 7)
                self.assertEqual(counts[0], 0)
                result = replaced(spec, expression)
                for name in spec.names():
                    self.assertEqual(unlabelled_counts(result, name, 7), from_cycle_sums(spec, name, counts, 7), (word, expression))
        self.assertEqual(unlabelled_counts(plain, "X", 1), [1, 0])

    def test_two_colours(self):
        for spec in [known(word) for word in WORDS] + brute.random_specs(69, 30, 2):
            result = replaced(spec, TWO)
            for name in spec.names():
                self.assertEqual([coloured(spec, name, n, 2) for n in range(8)], unlabelled_counts(result, name, 7))


if __name__ == "__main__":
    unittest.main()
