"""Promises 7.1, 7.3, 7.4, 7.7, and their part of the example 7.9: regular specifications."""

import itertools
import math
import random
import unittest

import brute
from samples import ATOM, KINDS, ONE, TWO, WORDS
from speciesmill.counts import labelled_counts, unlabelled_counts
from speciesmill.errors import NoSuchName, NotRegular
from speciesmill.founded import fault
from speciesmill.quotient import rule, terms
from speciesmill.regular import alike, is_regular, parting_size, quotient
from speciesmill.spec import Spec, inner_of, known, used

A, B, C, D = (("name", name) for name in "ABCD")
NONE = ("none",)
# The numbers of C and D are 1, 1, 1 ..
ONES = Spec({"C": ("or", ONE, ("and", ATOM, D)), "D": ("or", ONE, ("and", ATOM, D))})
COMPOSITIONS = known("compositions")
BROKEN = Spec({"A": A})
# The number of each size is the sum of the two before it.
FIBONACCI = Spec({"A": ("or", ONE, ("and", ATOM, ("or", A, B))), "B": ("and", ATOM, A)})


def row(a, least=0, most=None):
    return ("row", a, least, most)


def or_all(*parts):
    result = parts[0]
    for part in parts[1:]:
        result = ("or", result, part)
    return result


def regular_by_hand(spec):
    """Whether a specification is regular, word for word as the document tells it."""
    if fault(spec) is not None:
        return False
    needs = {name: set(used(spec.expression(name))) for name in spec.names()}
    for _ in needs:
        for name in needs:
            needs[name] = needs[name].union(*[needs[other] for other in needs[name]])
    belongs = {name: {other for other in needs[name] if name in needs[other]} for name in needs}

    def parts(expression):
        yield expression
        for inner in inner_of(expression):
            yield from parts(inner)

    for name in spec.names():
        for part in parts(spec.expression(name)):
            containing = [inner for inner in inner_of(part) if belongs[name].intersection(used(inner))]
            if part[0] in ("set", "ring") or (part[0] == "and" and len(containing) == 2) or (part[0] == "row" and containing):
                return False
    return True


def random_regular(source):
    """A specification without sets and rings; it may be regular."""
    names = "ABCD"[:source.randint(1, 4)]

    def expression(levels, linear):
        word = source.choice(["none", "one", "atom", "atom", "name", "or", "or", "and", "and", "row"])
        if levels == 0 and word not in ("none", "one"):
            word = source.choice(["atom", "atom", "name"])
        if word == "name" and not linear and source.random() < 0.7:
            word = "atom"
        if word in ("none", "one", "atom"):
            return (word,)
        if word == "name":
            return (word, source.choice(names))
        if word == "or":
            return (word, expression(levels - 1, linear), expression(levels - 1, linear))
        if word == "and":
            return (word, expression(levels - 1, False), expression(levels - 1, linear))
        least = source.choice([0, 0, 1, 2, 3])
        return row(expression(levels - 1, False), least, source.choice([None, least, least + 1, least + 3]))

    return Spec({name: expression(4, True) for name in names})


class IsRegular(unittest.TestCase):
    def test_known_specifications(self):
        for word in WORDS:
            self.assertIs(is_regular(known(word)), word in ("words", "compositions"))
            self.assertIs(is_regular(known(word)), regular_by_hand(known(word)))

    def test_sets_and_rings(self):
        for expression in (("set", ATOM, 0, None), ("ring", ATOM, 1, None), ("set", ATOM, 0, 0), ("ring", ATOM, 1, 1), ("set", NONE, 0, 1)):
            for inside in (expression, row(expression, 0, 1), ("and", NONE, expression), ("or", ATOM, expression)):
                self.assertFalse(is_regular(Spec({"A": inside})))
                self.assertFalse(is_regular(Spec({"A": ATOM, "B": inside})))

    def test_names_on_both_sides(self):
        self.assertTrue(is_regular(Spec({"A": or_all(ONE, ("and", ATOM, A))})))
        self.assertFalse(is_regular(Spec({"A": or_all(ATOM, ("and", A, A))})))
        self.assertFalse(is_regular(Spec({"A": or_all(ATOM, ("and", A, ("and", ATOM, A)))})))
        self.assertTrue(is_regular(Spec({"A": or_all(("and", ATOM, A), ("and", A, ATOM), ONE)})))
        # B belongs with A in the first two, and does not in the others.
        self.assertFalse(is_regular(Spec({"A": or_all(ATOM, ("and", A, B)), "B": ("and", ATOM, A)})))
        self.assertFalse(is_regular(Spec({"A": or_all(ATOM, ("and", B, B)), "B": ("and", ATOM, A)})))
        self.assertTrue(is_regular(Spec({"A": ("and", B, B), "B": or_all(ATOM, ("and", ATOM, B))})))
        self.assertTrue(is_regular(Spec({"A": or_all(ATOM, ("and", A, B)), "B": or_all(ATOM, ("and", ATOM, B))})))
        # What is needed by the other side does matter, even where nothing is.
        self.assertFalse(is_regular(Spec({"A": or_all(ATOM, ("and", A, ("and", NONE, A)))})))

    def test_names_in_rows(self):
        self.assertTrue(is_regular(Spec({"A": row(B), "B": ATOM})))
        self.assertTrue(is_regular(Spec({"A": row(B), "B": or_all(ATOM, ("and", ATOM, B))})))
        self.assertFalse(is_regular(Spec({"A": ("and", ATOM, row(A))})))
        self.assertFalse(is_regular(Spec({"A": ("and", ATOM, row(B)), "B": or_all(ATOM, ("and", ATOM, A))})))
        self.assertFalse(is_regular(Spec({"A": ("and", ATOM, row(A, 1, 1))})))
        self.assertFalse(is_regular(Spec({"A": or_all(ATOM, row(A, 0, 0))})))

    def test_not_well_founded(self):
        for equations in ({"A": A}, {"A": ATOM, "B": or_all(B, ATOM)}, {"A": row(ONE)}, {"A": row(or_all(ONE, ATOM), 0, 2)}):
            self.assertIs(is_regular(Spec(equations)), False)

    def test_by_hand(self):
        source = random.Random(71)
        seen = {True: 0, False: 0}
        for _ in range(600):
            spec = random_regular(source)
            seen[is_regular(spec)] += 1
            self.assertIs(is_regular(spec), regular_by_hand(spec))
        self.assertGreater(min(seen.values()), 100)
        for spec in brute.random_specs(72, 200):
            self.assertIs(is_regular(spec), regular_by_hand(spec))
        for expression in KINDS:
            self.assertIs(is_regular(Spec({"A": expression})), regular_by_hand(Spec({"A": expression})))


class TheQuotient(unittest.TestCase):
    def same(self, spec, most=60):
        for name in spec.names():
            found = quotient(spec, name)
            self.assertEqual(terms(found, most + 1), unlabelled_counts(spec, name, most))
            wanted = [many * math.factorial(size) for size, many in enumerate(terms(found, 21))]
            self.assertEqual(wanted, labelled_counts(spec, name, 20))
            top, bottom = found
            self.assertEqual(bottom[0], 1)
            self.assertTrue(bottom[-1] != 0 and (top == () or top[-1] != 0))
            self.assertEqual(quotient(spec, name), found)

    def test_each_kind_of_expression(self):
        for expression in KINDS:
            spec = Spec({"A": expression})
            if is_regular(spec):
                self.same(spec)
            else:
                with self.assertRaises(NotRegular):
                    quotient(spec, "A")

    def test_rows_with_all_bounds(self):
        for member in (ATOM, TWO, ("and", ATOM, TWO), row(TWO, 1, None), NONE, or_all(ATOM, row(ATOM, 3, 3))):
            for least in (0, 1, 2, 5, 30):
                for most in (None, 0, 1, 2, 3, 6, 30):
                    if most is None or most >= least:
                        self.same(Spec({"A": row(member, least, most)}))
        for member in (ONE, or_all(ONE, ONE, ATOM), row(ATOM)):
            for least, most in ((0, 0), (0, 1), (1, 1)):
                self.same(Spec({"A": row(member, least, most)}))

    def test_names_that_belong_with_one_another(self):
        self.same(ONES)
        self.same(FIBONACCI)
        self.same(Spec({"A": or_all(ONE, ("and", ATOM, B)), "B": or_all(("and", ATOM, A), ("and", TWO, C)), "C": or_all(ATOM, A)}))
        self.same(Spec({"A": or_all(B, ("and", ATOM, A)), "B": or_all(C, ("and", TWO, A)), "C": or_all(ONE, ("and", row(ATOM, 1), B), ("and", C, ATOM))}))
        self.same(Spec({
            "A": or_all(ONE, ("and", ATOM, B), ("and", TWO, D)), "B": or_all(("and", row(TWO), ("and", ATOM, A)), ("and", ATOM, C)),
            "C": or_all(("and", B, ATOM), ("and", D, ATOM)), "D": or_all(ATOM, ("and", ATOM, ("and", ATOM, or_all(A, B, C)))),
        }))

    def test_names_that_do_not(self):
        self.same(COMPOSITIONS)
        self.same(Spec({"A": ("and", B, B), "B": row(C, 1, 4), "C": or_all(D, ("and", D, ATOM)), "D": or_all(ATOM, ("and", ATOM, D))}))
        self.same(Spec({"A": row(B), "B": row(C, 1), "C": row(D, 2), "D": row(TWO, 1)}))
        # The numbers of names that are reached is the same for two groups, and names do not stand in their order.
        self.same(Spec({"A": or_all(ONE, ("and", ATOM, C)), "C": A, "B": or_all(ONE, ("and", TWO, D)), "D": or_all(B, ("and", A, C))}))
        self.same(Spec({"B": ("and", A, A), "A": or_all(ONE, ("and", ATOM, A)), "D": ("and", ("and", C, B), A), "C": ("and", ATOM, B)}))

    def test_none_and_one(self):
        for expression, wanted in ((NONE, ((), (1,))), (ONE, ((1,), (1,))), (ATOM, ((0, 1), (1,))), (TWO, ((0, 2), (1,))), (row(NONE), ((1,), (1,))),
                                   (row(ATOM), ((1,), (1, -1))), (row(ATOM, 3), ((0, 0, 0, 1), (1, -1))), (row(ATOM, 1, 3), ((0, 1, 1, 1), (1,))),
                                   (("and", NONE, row(ATOM)), ((), (1,))), (("and", ATOM, A), ((), (1,)))):
            self.assertEqual(quotient(Spec({"A": expression}), "A"), wanted)
        self.same(Spec({"A": or_all(("and", NONE, A), ATOM), "B": ("and", A, NONE)}))

    def test_known_quotients(self):
        self.assertEqual(quotient(known("words"), "W"), ((1,), (1, -2)))
        self.assertEqual(quotient(COMPOSITIONS, "D"), ((0, 1), (1, -1)))
        self.assertEqual(quotient(FIBONACCI, "A"), ((1,), (1, -1, -1)))
        self.assertEqual(quotient(FIBONACCI, "B"), ((0, 1), (1, -1, -1)))
        self.assertEqual(quotient(ONES, "C"), ((1,), (1, -1)))

    def test_mixed_specifications(self):
        source = random.Random(73)
        many = 0
        while many < 120:
            spec = random_regular(source)
            if is_regular(spec):
                many += 1
                self.same(spec, 30)

    def test_twelve_names(self):
        names = "ABCDEFGHIJKL"
        source = random.Random(74)
        equations = {}
        for name in names:
            others = [("and", source.choice([ATOM, TWO, row(TWO, 1), row(ATOM, 1, 3)]), ("name", source.choice(names))) for _ in range(4)]
            equations[name] = or_all(ONE, *others)
        self.same(Spec(equations))

    def test_errors(self):
        trees = known("trees")
        for spec, name in ((trees, "T"), (known("rooted"), "R"), (known("binary"), "B"), (BROKEN, "A")):
            with self.assertRaises(NotRegular):
                quotient(spec, name)
            for wrong in ("X", "", None, 1, ("T",)):
                with self.assertRaises(NoSuchName):
                    quotient(spec, wrong)
        for wrong in ("X", None, 1, ["C"]):
            with self.assertRaises(NoSuchName):
                quotient(COMPOSITIONS, wrong)
        # The whole specification is asked, not only what the name needs.
        with self.assertRaises(NotRegular):
            quotient(Spec({"A": ATOM, "B": ("set", ATOM, 0, None)}), "A")


class Parting(unittest.TestCase):
    def parts_at(self, first, second, size):
        one, other = Spec({"A": first}), Spec({"A": second})
        for found in (parting_size(one, "A", other, "A"), parting_size(other, "A", one, "A")):
            self.assertEqual(found, size)
        self.assertIs(alike(one, "A", other, "A"), size is None)
        self.assertIs(alike(other, "A", one, "A"), size is None)

    def test_the_same_numbers_written_in_two_ways(self):
        for first, second in ((row(TWO), or_all(ONE, ("and", ATOM, A), ("and", ATOM, A))), (row(ATOM), or_all(ONE, row(ATOM, 1))),
                              (row(row(ATOM, 1)), or_all(ONE, ("and", ATOM, row(TWO)))), (("and", TWO, ATOM), ("or", ("and", ATOM, ATOM), row(ATOM, 2, 2))),
                              (("and", row(ATOM), row(ATOM)), or_all(row(ATOM), ("and", ("and", row(ATOM), ATOM), row(ATOM)))), (NONE, ("and", ATOM, A))):
            self.parts_at(first, second, None)

    def test_where_they_part(self):
        self.parts_at(ONE, ATOM, 0)
        self.parts_at(row(ATOM), row(ATOM, 1), 0)
        self.parts_at(NONE, ONE, 0)
        self.parts_at(NONE, ATOM, 1)
        self.parts_at(row(ATOM), row(TWO), 1)
        for size in (2, 5, 30):
            self.parts_at(row(ATOM), row(ATOM, 0, size - 1), size)
        # Later than any size that is counted.
        self.parts_at(row(row(ATOM, 10, 10)), row(row(ATOM, 10, 10), 0, 8), 90)
        self.parts_at(row(row(TWO, 30, 30)), row(row(TWO, 30, 30), 0, 30), 930)
        self.parts_at(row(row(row(ATOM, 30, 30), 30, 30), 1, 1), NONE, 900)

    def test_against_the_numbers(self):
        source = random.Random(77)
        specs = [spec for spec in (random_regular(source) for _ in range(120)) if is_regular(spec)]
        names = [(spec, name) for spec in specs for name in spec.names()][:60]
        counts = [unlabelled_counts(spec, name, 60) for spec, name in names]
        parting = set()
        for (first, one), (second, other) in itertools.combinations(list(zip(names, counts)), 2):
            unlike = [size for size in range(61) if one[size] != other[size]]
            size = parting_size(*first, *second)
            parting.add(size)
            self.assertEqual(alike(*first, *second), size is None)
            if unlike:
                self.assertEqual(size, unlike[0])
            else:
                self.assertIsNone(size)
        self.assertGreater(len(parting), 4)

    def test_names_of_one_specification(self):
        self.assertIsNone(parting_size(ONES, "C", ONES, "D"))
        self.assertTrue(alike(ONES, "C", ONES, "C"))
        self.assertEqual(parting_size(COMPOSITIONS, "C", COMPOSITIONS, "D"), 0)
        self.assertEqual(parting_size(COMPOSITIONS, "C", ONES, "C"), 2)
        self.assertFalse(alike(COMPOSITIONS, "C", COMPOSITIONS, "D"))

    def test_errors_of_the_first_one_come_first(self):
        trees = known("trees")
        for function in (parting_size, alike):
            for first, name, second, other, error in (
                (COMPOSITIONS, "X", COMPOSITIONS, "C", NoSuchName), (COMPOSITIONS, "C", COMPOSITIONS, "X", NoSuchName),
                (trees, "T", COMPOSITIONS, "C", NotRegular), (COMPOSITIONS, "C", trees, "T", NotRegular), (BROKEN, "A", COMPOSITIONS, "C", NotRegular),
                (trees, "T", COMPOSITIONS, "X", NotRegular), (trees, "T", trees, "X", NotRegular), (COMPOSITIONS, "X", trees, "T", NoSuchName),
                (trees, "X", trees, "T", NoSuchName), (COMPOSITIONS, "C", trees, "X", NoSuchName), (BROKEN, "A", BROKEN, "X", NotRegular),
            ):
                with self.assertRaises(error):
                    function(first, name, second, other)


class TheExample(unittest.TestCase):
    def test_compositions(self):
        found = quotient(COMPOSITIONS, "C")
        self.assertEqual(found, ((1, -1), (1, -2)))
        self.assertEqual(terms(found, 6), [1, 1, 2, 4, 8, 16])
        self.assertEqual(rule(found), (2, (2,)))
        self.assertEqual(terms(quotient(ONES, "C"), 4), [1, 1, 1, 1])
        self.assertEqual(parting_size(COMPOSITIONS, "C", ONES, "C"), 2)


if __name__ == "__main__":
    unittest.main()
