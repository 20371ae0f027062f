"""Promises 0.3, 1.1, 1.2 and 1.8: names, expressions and specifications."""

import unittest

from speciesmill.errors import BadSpec, NoSuchName
from speciesmill.spec import Spec, depth, is_expression, known, used

NONE, ONE, ATOM = ("none",), ("one",), ("atom",)
A, B = ("name", "A"), ("name", "B")


def nested(levels, word="or"):
    """An expression that is nested so deep."""
    expression = ATOM
    for _ in range(levels):
        if word in ("or", "and"):
            expression = (word, ONE, expression)
        else:
            expression = (word, expression, 1, None)
    return expression


class Expressions(unittest.TestCase):
    def yes(self, *values):
        for value in values:
            self.assertIs(is_expression(value), True, value)

    def no(self, *values):
        for value in values:
            self.assertIs(is_expression(value), False, value)

    def test_each_kind(self):
        self.yes(NONE, ONE, ATOM, A, ("or", ATOM, A), ("and", ONE, NONE))
        self.yes(("row", ATOM, 0, None), ("set", ATOM, 2, 5), ("ring", ATOM, 1, 1))

    def test_names(self):
        self.yes(("name", "Q"), ("name", "Abcdefgh"), ("name", "A1b2C3"), ("name", "Z9999999"), ("name", "AZ"))
        self.no(("name", ""), ("name", "Abcdefghi"), ("name", "a"), ("name", "1A"), ("name", "aB"))
        self.no(("name", "A_"), ("name", "A b"), ("name", "A\n"), ("name", "\u00c4"), ("name", "A\u00e4"))
        self.no(("name", "A\u0661"), ("name", "A-"), ("name", "_A"), ("name", "\u0391"), ("name", "A\u00b2"))
        self.no(("name", 1), ("name", None), ("name", b"A"), ("name", ("A",)), ("name", ["A"]))

    def test_bounds(self):
        for word in ("row", "set"):
            self.yes((word, ATOM, 0, 0), (word, ATOM, 0, 30), (word, ATOM, 30, 30), (word, ATOM, 30, None))
            self.yes((word, ATOM, 1, 1), (word, ATOM, 7, 8), (word, ATOM, 0, None))
        self.yes(("ring", ATOM, 1, 30), ("ring", ATOM, 30, None), ("ring", ATOM, 30, 30))
        for word in ("row", "set", "ring"):
            self.no((word, ATOM, 1, 31), (word, ATOM, 31, 31), (word, ATOM, 31, None), (word, ATOM, -1, 2))
            self.no((word, ATOM, 2, 1), (word, ATOM, 30, 29), (word, ATOM, None, 3), (word, ATOM, None, None))
            self.no((word, ATOM, True, 3), (word, ATOM, 1, True), (word, ATOM, "1", 2), (word, ATOM, 1, "2"))
            self.no((word, ATOM, 1.0, 2), (word, ATOM, 1, 2.0), (word, ATOM, 1, ()), (word, ATOM, 1, False))
        self.no(("row", ATOM, False, None), ("set", ATOM, False, 1), ("row", ATOM, 0, False))
        self.no(("ring", ATOM, 0, 1), ("ring", ATOM, 0, None), ("ring", ATOM, 0, 0))

    def test_the_depth(self):
        for word in ("or", "and", "row", "set", "ring"):
            self.yes(nested(9, word), nested(10, word))
            self.no(nested(11, word), nested(12, word))
        self.yes(("or", nested(9), nested(8)))
        self.no(("or", ATOM, nested(10)), ("or", nested(10), ATOM), ("row", nested(10), 0, 1))

    def test_values_that_are_nested_far_too_deep(self):
        self.no(nested(100000, "row"), nested(100000, "and"))
        shared = ATOM
        for _ in range(200):
            shared = ("or", shared, shared)
        self.no(shared)

    def test_tuples_of_another_length(self):
        self.no((), ("none", ATOM), ("one", 0), ("atom", 1), ("name",), ("name", "A", "B"))
        self.no(("or",), ("or", ATOM), ("or", ATOM, ATOM, ATOM), ("and", ATOM), ("and", ATOM, ATOM, None))
        self.no(("row", ATOM), ("row", ATOM, 0), ("row", ATOM, 0, None, None), ("set",), ("ring", ATOM, 1))

    def test_lists_in_the_place_of_tuples(self):
        self.no(["none"], ["atom"], ["or", ATOM, ATOM], ("or", ["atom"], ATOM), ("and", ATOM, ["one"]))
        self.no(("row", ["atom"], 0, None), ["name", "A"], ("set", [], 0, 1))

    def test_values_of_other_kinds(self):
        self.no(None, True, 0, 3, "atom", "A", b"atom", {}, {"none": 1}, object(), atom_class(), (1,), (None,))
        self.no((("atom",),), (["atom"],), ({},), (b"atom",), ("Atom",), ("",), ("other", ATOM), ("NAME", "A"))
        self.no(("or", ATOM, None), ("or", "atom", ATOM), ("and", 1, 2), ("row", None, 0, 1), ("row", "A", 0, 1))
        self.no(frozenset(["atom"]), range(3), 1.5)

    def test_wrong_ones_inside(self):
        self.no(("or", ATOM, ("ring", ATOM, 0, None)), ("set", ("name", "a"), 0, 1), ("and", ("one", 1), ATOM))


def atom_class():
    class Atom:
        pass

    return Atom


class Depths(unittest.TestCase):
    def test_the_plain_ones(self):
        for expression in (NONE, ONE, ATOM, A):
            self.assertEqual(depth(expression), 0)

    def test_nested_ones(self):
        self.assertEqual(depth(("or", ATOM, A)), 1)
        self.assertEqual(depth(("row", ATOM, 0, None)), 1)
        self.assertEqual(depth(("and", ATOM, ("set", ("or", ONE, ATOM), 0, 2))), 3)
        self.assertEqual(depth(("and", ("set", ("or", ONE, ATOM), 0, 2), ATOM)), 3)
        for word in ("or", "and", "row", "set", "ring"):
            for levels in (1, 5, 10, 11, 15):
                self.assertEqual(depth(nested(levels, word)), levels)


class Used(unittest.TestCase):
    def test_none(self):
        self.assertEqual(used(ATOM), [])
        self.assertEqual(used(("ring", ("or", ONE, NONE), 1, None)), [])

    def test_ascending_and_each_once(self):
        expression = ("or", ("and", B, ("name", "Ab")), ("set", ("ring", ("or", A, B), 1, 2), 0, 1))
        self.assertEqual(used(expression), ["A", "Ab", "B"])
        self.assertEqual(used(("and", A, A)), ["A"])
        self.assertEqual(used(("row", ("name", "Z"), 0, 0)), ["Z"])
        self.assertEqual(used(("or", ("name", "Aa"), ("or", ("name", "AB"), ("name", "A1")))), ["A1", "AB", "Aa"])

    def test_it_is_new(self):
        expression = ("and", A, B)
        used(expression).append("C")
        self.assertEqual(used(expression), ["A", "B"])


def many_names(many):
    return {"N" + str(number): ATOM for number in range(many)}


class Specifications(unittest.TestCase):
    def bad(self, *values):
        for value in values:
            with self.assertRaises(BadSpec):
                Spec(value)

    def test_names_and_expressions(self):
        spec = Spec({"B": ("and", A, B), "A": ATOM, "A1": ("name", "B")})
        self.assertEqual(spec.names(), ["A", "A1", "B"])
        self.assertEqual(spec.expression("A"), ATOM)
        self.assertEqual(spec.expression("B"), ("and", A, B))

    def test_how_many_names(self):
        self.bad({}, many_names(13), many_names(14))
        self.assertEqual(Spec(many_names(1)).names(), ["N0"])
        self.assertEqual(len(Spec(many_names(12)).names()), 12)

    def test_keys_that_are_no_names(self):
        for key in ("a", "", "Abcdefghi", "A b", 1, None, ("A",), True, b"A", "\u00c4"):
            self.bad({key: ATOM}, {"A": ATOM, key: ATOM})

    def test_values_that_are_no_expressions(self):
        for value in (None, "atom", ["atom"], ("ring", ATOM, 0, None), nested(11), (), ("row", ATOM, 0), 1):
            self.bad({"A": value}, {"A": ATOM, "B": value})
        self.assertEqual(Spec({"A": nested(10)}).names(), ["A"])

    def test_names_that_are_no_keys(self):
        self.bad({"A": B}, {"A": ATOM, "B": ("set", ("or", A, ("name", "C")), 0, 1)}, {"B": ("row", A, 0, 0)})

    def test_values_that_are_no_dict(self):
        self.bad(None, [], [("A", ATOM)], (), "A", 1, True, set(), ATOM, (("A", ATOM),))

    def test_the_dict_is_copied(self):
        equations = {"A": ATOM, "B": A}
        spec = Spec(equations)
        equations["A"] = ONE
        equations["C"] = ATOM
        del equations["B"]
        self.assertEqual(spec.names(), ["A", "B"])
        self.assertEqual(spec.expression("A"), ATOM)
        self.assertEqual(spec.expression("B"), A)

    def test_the_dict_is_not_changed(self):
        equations = {"B": A, "A": ATOM}
        Spec(equations)
        self.assertEqual(list(equations.items()), [("B", A), ("A", ATOM)])

    def test_the_list_of_names_is_new(self):
        spec = Spec({"A": ATOM, "B": A})
        spec.names().append("C")
        spec.names().clear()
        self.assertEqual(spec.names(), ["A", "B"])

    def test_a_name_that_is_not_there(self):
        spec = Spec({"A": ATOM})
        for name in ("B", "", "a", "AA", None, 1, []):
            with self.assertRaises(NoSuchName):
                spec.expression(name)


class KnownOnes(unittest.TestCase):
    def test_each_word(self):
        two, q, r = ("or", ATOM, ATOM), ("name", "Q"), ("name", "R")
        b, t = ("name", "B"), ("name", "T")
        tree = ("and", ATOM, ("set", r, 0, None))
        wanted = {
            "words": {"W": ("row", two, 0, None)},
            "trees": {"T": ("and", ATOM, ("row", t, 0, None))},
            "rooted": {"R": tree},
            "binary": {"B": ("or", ONE, ("and", ATOM, ("and", b, b)))},
            "partitions": {"P": ("set", q, 0, None), "Q": ("set", ATOM, 1, None)},
            "permutations": {"P": ("set", q, 0, None), "Q": ("ring", ATOM, 1, None)},
            "necklaces": {"N": ("ring", two, 1, None)},
            "compositions": {"C": ("row", ("name", "D"), 0, None), "D": ("row", ATOM, 1, None)},
            "maps": {"M": ("set", q, 0, None), "Q": ("ring", r, 1, None), "R": tree},
        }
        for word, equations in wanted.items():
            spec = known(word)
            self.assertIsInstance(spec, Spec)
            self.assertEqual({name: spec.expression(name) for name in spec.names()}, equations, word)

    def test_other_words(self):
        for word in ("", "Words", "word", "W", "trees ", "sets", "maps\n"):
            with self.assertRaises(NoSuchName):
                known(word)


if __name__ == "__main__":
    unittest.main()
