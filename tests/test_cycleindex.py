"""Promises 6.1, 6.3 and 6.4, and their part of the example 6.10: structures that permutations keep."""

import inspect
import math
import sys
import unittest

import brute
from samples import ATOM, KINDS, ONE, TWO, WORDS, WRONG, numbers
from speciesmill.counts import labelled_counts
from speciesmill.cycleindex import cycle_sum, kept
from speciesmill.errors import BadShape, NoSuchName, NotFounded, TooGreat
from speciesmill.shapes import shapes
from speciesmill.spec import Spec, known

ROOTED = known("rooted")
BROKEN = Spec({"A": ("name", "A")})
RING = Spec({"N": ("ring", ATOM, 1, None)})
# What is no shape, whatever its sum.
NO_SHAPES = (None, 3, "", "21", [], [2, 1], {}, (1, 2), (2, 3, 1), (0,), (1, 0), (-1,), (True,), (2, True), (1.0,), ("1",), (None,), ((1,),),
             ([1],), (1, 10**30), (30, True), (30, 0))
# Members of several sizes, and sets, rows and rings of them with bounds, within one another.
SETS = ("set", TWO, 1, None)
RINGS = ("ring", ATOM, 1, None)
PAIRS = ("and", ATOM, ("or", ONE, ATOM))
NESTED = [
    (word, member, least, most)
    for word in ("row", "set", "ring")
    for member in (SETS, RINGS, PAIRS, ("row", PAIRS, 1, 2), ("set", RINGS, 1, 2))
    for least, most in ((1, None), (2, 2), (2, 3), (4, 4), (1, 1))
]


class AgainstPermutations(unittest.TestCase):
    def same(self, spec, name, size, every):
        """Whether the numbers are those of the structures kept by all permutations, or by one of each shape."""
        structures = brute.all_on(spec, ("name", name), numbers(size))
        asked = []
        for images in brute.permutations(size):
            shape = brute.cycle_lengths(images)
            if every or shape not in asked:
                asked.append(shape)
                wanted = brute.kept(structures, images)
                self.assertEqual(kept(spec, name, shape), wanted, (spec.expression(name), shape))
                self.assertIn((shape, wanted), cycle_sum(spec, name, size))

    def test_each_kind_of_expression(self):
        for expression in KINDS:
            spec = Spec({"A": expression})
            for size in range(5):
                self.same(spec, "A", size, size < 4)

    def test_kinds_within_one_another(self):
        for expression in NESTED:
            spec = Spec({"A": expression})
            for size in range(5):
                self.same(spec, "A", size, False)

    def test_known_specifications(self):
        for word in WORDS:
            spec = known(word)
            for name in spec.names():
                for size in range(5):
                    self.same(spec, name, size, True)

    def test_greater_sizes(self):
        for spec, sizes in ((known("partitions"), (5, 6)), (known("permutations"), (5, 6)), (ROOTED, (5,)), (RING, (5, 6, 7)), (known("maps"), (5,)),
                            (Spec({"A": ("set", ("set", ATOM, 2, 2), 0, None)}), (6, 8)), (Spec({"A": ("ring", ("set", ATOM, 1, 2), 2, 4)}), (6,)),
                            (Spec({"A": ("set", ("ring", ATOM, 3, 3), 2, 2)}), (6,))):
            for size in sizes:
                self.same_by_shape(spec, spec.names()[0], size)

    def same_by_shape(self, spec, name, size):
        """As same, for one permutation of each shape that is not looked for."""
        structures = brute.all_on(spec, ("name", name), numbers(size))
        wanted = []
        for shape in shapes(size):
            images, first = [], 1
            for length in shape:
                images.extend([*range(first + 1, first + length), first])
                first += length
            wanted.append((shape, brute.kept(structures, images)))
        self.assertEqual(cycle_sum(spec, name, size), wanted)

    def test_mixed_specifications(self):
        for spec in brute.random_specs(610, 30):
            for name in spec.names():
                for size in range(4):
                    self.same(spec, name, size, True)

    def test_names_that_need_themselves(self):
        a = ("name", "A")
        for expression in (("or", ONE, ("and", a, ATOM)), ("or", ATOM, ("and", ATOM, a)), ("or", ATOM, ("and", a, a)), ("and", a, ("and", a, ATOM)),
                           ("or", ATOM, ("row", a, 2, None)), ("or", ATOM, ("set", a, 2, None)), ("or", TWO, ("ring", a, 2, None)),
                           ("or", ATOM, ("set", ("set", ("ring", a, 2, 2), 1, 1), 1, 2)), ("or", ("row", a, 2, 2), ("or", ("set", a, 3, 4), ATOM))):
            for size in range(5):
                self.same(Spec({"A": expression}), "A", size, False)

    def test_several_names_that_lead_to_one_another(self):
        spec = Spec({
            "A": ("or", ("name", "B"), ("and", ("name", "D"), ("name", "C"))), "B": ("or", ONE, ("and", ATOM, ("name", "A"))),
            "C": ("set", ("and", ATOM, ("name", "B")), 0, None), "D": ("ring", ("name", "E"), 1, 1), "E": ("row", ("name", "F"), 0, 1), "F": ATOM,
        })
        for name in spec.names():
            for size in range(5):
                self.same(spec, name, size, False)


class Sums(unittest.TestCase):
    def test_order_and_the_shape_of_ones(self):
        for word in WORDS:
            spec = known(word)
            for name in spec.names():
                labelled = labelled_counts(spec, name, 10)
                for n in (0, 1, 5, 10):
                    found = cycle_sum(spec, name, n)
                    self.assertEqual([shape for shape, _ in found], shapes(n))
                    self.assertEqual(found[-1][1], labelled[n])
                    self.assertEqual(kept(spec, name, (1,) * n), labelled[n])

    def test_greatest_size(self):
        found = dict(cycle_sum(RING, "N", 10))
        totients = {1: 1, 2: 1, 5: 4, 10: 4}
        for shape in shapes(10):
            equal = len(set(shape)) == 1
            # The turns of a ring have cycles of equal lengths; they are kept by as many rings as are told so.
            wanted = totients[shape[0]] * math.factorial(9) // (math.factorial(10) // weight_by_hand(shape)) if equal else 0
            self.assertEqual(found[shape], wanted)
            self.assertEqual(kept(RING, "N", shape), wanted)
        sets = Spec({"A": ("set", ATOM, 0, None)})
        self.assertEqual(cycle_sum(sets, "A", 10), [(shape, 1) for shape in shapes(10)])
        rows = Spec({"A": ("row", ATOM, 0, None)})
        self.assertEqual(cycle_sum(rows, "A", 10), [(shape, math.factorial(10) if shape == (1,) * 10 else 0) for shape in shapes(10)])

    def test_size_0(self):
        for expression, many in ((ONE, 1), (ATOM, 0), (("set", ATOM, 0, None), 1), (("set", ("or", ONE, ("or", ONE, ATOM)), 0, 1), 3), (("none",), 0)):
            spec = Spec({"A": expression})
            self.assertEqual(cycle_sum(spec, "A", 0), [((), many)])
            self.assertEqual(kept(spec, "A", ()), many)

    def test_what_is_returned_is_new(self):
        cycle_sum(RING, "N", 4).clear()
        self.assertEqual(len(cycle_sum(RING, "N", 4)), 5)

    def test_deep_expressions(self):
        def wrapped(expression, levels):
            return expression if levels == 0 else ("or", ("none",), wrapped(expression, levels - 1))

        def bodies(name):
            yield ("and", ATOM, ("set", ("name", name), 0, None))
            yield ("or", ATOM, ("and", ATOM, ("ring", ("name", name), 1, None)))
            yield ("or", ATOM, ("set", ("name", name), 2, 2))

        names = "ABCDEFGHIJKL"
        for body, plain in zip(bodies("A"), bodies("R")):
            equations = {name: wrapped(("name", other), 10) for name, other in zip(names, names[1:])}
            spec = Spec({**equations, "L": wrapped(body, 7)})
            plain_spec = Spec({"R": plain})
            limit = sys.getrecursionlimit()
            sys.setrecursionlimit(len(inspect.stack()) + 200)
            try:
                for shape in shapes(8) + shapes(10):
                    self.assertEqual(kept(spec, "A", shape), kept(plain_spec, "R", shape))
            finally:
                sys.setrecursionlimit(limit)
            self.assertEqual(cycle_sum(spec, "A", 10), cycle_sum(plain_spec, "R", 10))


def weight_by_hand(shape):
    return math.prod(length ** shape.count(length) * math.factorial(shape.count(length)) for length in set(shape))


class Errors(unittest.TestCase):
    def raises(self, error, function, *arguments):
        with self.assertRaises(error, msg=(function, arguments)):
            function(*arguments)

    def test_in_their_order(self):
        for wrong in ((2, 1), (11,), *NO_SHAPES):
            for name in ("A", "X", None):
                self.raises(NotFounded, kept, BROKEN, name, wrong)
            self.raises(NoSuchName, kept, ROOTED, "X", wrong)
            self.raises(NoSuchName, kept, ROOTED, None, wrong)
        for wrong in (4, 11, *WRONG):
            for name in ("A", "X", None):
                self.raises(NotFounded, cycle_sum, BROKEN, name, wrong)
            self.raises(NoSuchName, cycle_sum, ROOTED, "X", wrong)
            self.raises(NoSuchName, cycle_sum, ROOTED, None, wrong)

    def test_what_is_no_shape(self):
        for shape in NO_SHAPES:
            self.raises(BadShape, kept, ROOTED, "R", shape)
        for n in (-10**30, *WRONG):
            self.raises(BadShape, cycle_sum, ROOTED, "R", n)

    def test_what_is_too_great(self):
        for shape in ((11,), (10, 1), (1,) * 11, (6, 5), (20, 1), (21,), (10**30, 10**30)):
            self.raises(TooGreat, kept, ROOTED, "R", shape)
        for n in (11, 20, 21, 10**30):
            self.raises(TooGreat, cycle_sum, ROOTED, "R", n)
        self.assertEqual(len(cycle_sum(ROOTED, "R", 10)), 42)


class TheExample(unittest.TestCase):
    def test_necklaces_without_colours(self):
        self.assertEqual(cycle_sum(RING, "N", 4), [((4,), 2), ((3, 1), 0), ((2, 2), 2), ((2, 1, 1), 0), ((1, 1, 1, 1), 6)])


if __name__ == "__main__":
    unittest.main()
