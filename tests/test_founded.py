"""Promises 1.3 to 1.6 and the example 1.9: well-founded specifications."""

import itertools
import unittest

from speciesmill.errors import NotFounded
from speciesmill.founded import emptyable, fault, order
from speciesmill.spec import Spec, known

NONE, ONE, ATOM = ("none",), ("one",), ("atom",)
WORDS = "words trees rooted binary partitions permutations necklaces compositions maps".split()


def name(letter):
    return ("name", letter)


def either(*expressions):
    if len(expressions) == 1:
        return expressions[0]
    return ("or", expressions[0], either(*expressions[1:]))


def graph(arrows, more=NONE):
    """A specification in which each name leads directly to the letters given for it."""
    return Spec({letter: either(more, *[name(goal) for goal in goals]) for letter, goals in arrows.items()})


def is_empty(expression):
    return emptyable(Spec({"A": expression, "E": ONE, "F": ATOM})) == ["A", "E"]


class Emptyable(unittest.TestCase):
    def test_plain_ones(self):
        self.assertTrue(is_empty(ONE))
        self.assertFalse(is_empty(NONE))
        self.assertFalse(is_empty(ATOM))
        self.assertTrue(is_empty(name("E")))
        self.assertFalse(is_empty(name("F")))
        self.assertFalse(is_empty(name("A")))

    def test_or_and_and(self):
        self.assertTrue(is_empty(("or", ONE, ATOM)))
        self.assertTrue(is_empty(("or", ATOM, name("E"))))
        self.assertFalse(is_empty(("or", ATOM, NONE)))
        self.assertTrue(is_empty(("and", ONE, name("E"))))
        self.assertFalse(is_empty(("and", ONE, ATOM)))
        self.assertFalse(is_empty(("and", NONE, ONE)))

    def test_rows_and_sets(self):
        for word in ("row", "set"):
            self.assertTrue(is_empty((word, ATOM, 0, None)))
            self.assertTrue(is_empty((word, NONE, 0, 0)))
            self.assertTrue(is_empty((word, ONE, 1, 1)))
            self.assertTrue(is_empty((word, name("E"), 2, 3)))
            self.assertFalse(is_empty((word, ATOM, 1, None)))
            self.assertFalse(is_empty((word, name("F"), 2, 2)))

    def test_rings(self):
        self.assertTrue(is_empty(("ring", ONE, 1, 1)))
        self.assertTrue(is_empty(("ring", name("E"), 2, None)))
        self.assertFalse(is_empty(("ring", ATOM, 1, None)))
        self.assertFalse(is_empty(("ring", NONE, 1, None)))

    def test_through_several_names(self):
        spec = Spec({"A": name("B"), "B": ("and", name("C"), name("D")), "C": name("D"), "D": ("or", ATOM, ONE)})
        self.assertEqual(emptyable(spec), ["A", "B", "C", "D"])
        spec = Spec({"Z": ONE, "A": name("Z"), "M": ATOM})
        self.assertEqual(emptyable(spec), ["A", "Z"])

    def test_it_is_the_least_set(self):
        self.assertEqual(emptyable(Spec({"A": name("A")})), [])
        self.assertEqual(emptyable(Spec({"A": name("B"), "B": ("and", name("A"), ONE)})), [])

    def test_it_is_new(self):
        spec = Spec({"A": ONE})
        emptyable(spec).append("B")
        self.assertEqual(emptyable(spec), ["A"])


class Members(unittest.TestCase):
    def test_each_word_with_members_that_can_be_empty(self):
        for word in ("row", "set", "ring"):
            for least, most in ((1, None), (1, 2), (2, 30), (30, 30)):
                self.assertEqual(fault(Spec({"A": (word, ONE, least, most)})), ("members", "A"))
                self.assertIsNone(fault(Spec({"A": (word, ATOM, least, most)})))
            self.assertIsNone(fault(Spec({"A": (word, ONE, 1, 1)})))
        for word in ("row", "set"):
            self.assertEqual(fault(Spec({"A": (word, ONE, 0, 2)})), ("members", "A"))
            self.assertEqual(fault(Spec({"A": (word, ONE, 0, None)})), ("members", "A"))
            self.assertIsNone(fault(Spec({"A": (word, ONE, 0, 1)})))
            self.assertIsNone(fault(Spec({"A": (word, ONE, 0, 0)})))

    def test_deep_within_and_through_names(self):
        inner = ("row", name("B"), 0, None)
        spec = Spec({"A": ("and", ATOM, ("or", NONE, ("set", inner, 0, 1))), "B": ("set", ATOM, 0, 0)})
        self.assertEqual(fault(spec), ("members", "A"))
        self.assertEqual(fault(Spec({"A": ("and", NONE, ("row", ONE, 0, None))})), ("members", "A"))
        self.assertEqual(fault(Spec({"A": ("row", ("row", ONE, 0, None), 0, 0)})), ("members", "A"))

    def test_the_least_name(self):
        bad = ("set", ONE, 0, None)
        self.assertEqual(fault(Spec({"C": bad, "B": bad, "A": ATOM})), ("members", "B"))
        self.assertEqual(fault(Spec({"A": name("C"), "C": bad})), ("members", "C"))

    def test_before_a_round(self):
        spec = Spec({"A": name("A"), "B": ("ring", ONE, 1, None)})
        self.assertEqual(fault(spec), ("members", "B"))


class Rounds(unittest.TestCase):
    def test_of_one_name(self):
        self.assertEqual(fault(Spec({"A": name("A")})), ("round", ("A",)))
        self.assertEqual(fault(Spec({"A": ATOM, "B": ("or", ATOM, name("B"))})), ("round", ("B",)))

    def test_of_several_names(self):
        spec = graph({"A": "B", "B": "C", "C": "A"})
        self.assertEqual(fault(spec), ("round", ("A", "B", "C")))
        spec = graph({"A": "C", "B": "A", "C": "B"})
        self.assertEqual(fault(spec), ("round", ("A", "C", "B")))

    def test_the_example(self):
        spec = Spec({"A": ("or", ONE, name("B")), "B": ("and", name("A"), name("A"))})
        self.assertEqual(emptyable(spec), ["A", "B"])
        self.assertEqual(fault(spec), ("round", ("A", "B")))

    def test_the_least_name_on_any_round_begins(self):
        self.assertEqual(fault(graph({"A": "B", "B": "C", "C": "B"})), ("round", ("B", "C")))
        self.assertEqual(fault(graph({"A": "C", "B": "", "C": "D", "D": "DA"})), ("round", ("A", "C", "D")))
        self.assertEqual(fault(graph({"A": "B", "B": "", "C": "C"})), ("round", ("C",)))

    def test_the_shortest_one(self):
        self.assertEqual(fault(graph({"A": "BC", "B": "C", "C": "A"})), ("round", ("A", "C")))
        self.assertEqual(fault(graph({"A": "AB", "B": "A"})), ("round", ("A",)))

    def test_the_least_of_the_shortest(self):
        spec = graph({"A": "DC", "B": "A", "C": "EB", "D": "AB", "E": "A"})
        self.assertEqual(fault(spec), ("round", ("A", "D")))
        spec = graph({"A": "DC", "B": "A", "C": "EB", "D": "B", "E": "A"})
        self.assertEqual(fault(spec), ("round", ("A", "C", "B")))

    def test_all_small_graphs(self):
        letters = "ABC"
        choices = [[letter for at, letter in enumerate(letters) if bits >> at & 1] for bits in range(8)]
        for first, second, third in itertools.product(choices, repeat=3):
            arrows = {"A": first, "B": second, "C": third}
            rounds = []
            for length in (1, 2, 3):
                for names in itertools.permutations(letters, length):
                    if all(names[(at + 1) % length] in arrows[names[at]] for at in range(length)):
                        rounds.append(names)
            wanted = None
            if rounds:
                wanted = ("round", min(rounds, key=lambda names: (names[0], len(names), names)))
            self.assertEqual(fault(graph(arrows)), wanted)

    def test_what_is_not_a_round_with_an_atom_beside(self):
        self.assertIsNone(fault(Spec({"A": ("and", ATOM, name("A"))})))
        self.assertIsNone(fault(Spec({"A": ("and", name("B"), ATOM), "B": name("A")})))


class Leading(unittest.TestCase):
    def leads(self, expression):
        return fault(Spec({"A": expression, "E": ONE, "F": ATOM})) == ("round", ("A",))

    def test_and(self):
        self.assertTrue(self.leads(("and", name("A"), ONE)))
        self.assertTrue(self.leads(("and", name("E"), name("A"))))
        self.assertFalse(self.leads(("and", name("A"), name("F"))))
        self.assertFalse(self.leads(("and", ATOM, name("A"))))
        self.assertFalse(self.leads(("and", name("A"), NONE)))
        self.assertFalse(self.leads(("and", name("A"), name("A"))))
        self.assertTrue(self.leads(("and", ("or", ONE, name("A")), ("or", ONE, name("A")))))
        self.assertTrue(self.leads(("and", ("and", name("A"), ONE), ("row", ATOM, 0, None))))

    def test_or(self):
        self.assertTrue(self.leads(("or", name("A"), ATOM)))
        self.assertTrue(self.leads(("or", NONE, ("or", ATOM, name("A")))))

    def test_the_least_number_of_members(self):
        for word in ("row", "set", "ring"):
            self.assertTrue(self.leads((word, name("A"), 1, None)))
            self.assertTrue(self.leads((word, name("A"), 1, 1)))
            self.assertFalse(self.leads((word, name("A"), 2, None)))
            self.assertFalse(self.leads((word, name("A"), 2, 2)))
        for word in ("row", "set"):
            self.assertFalse(self.leads((word, name("A"), 0, 0)))
            self.assertTrue(self.leads((word, name("A"), 0, 1)))

    def test_members_of_members(self):
        self.assertTrue(self.leads(("set", ("row", name("A"), 1, None), 1, None)))
        self.assertFalse(self.leads(("set", ("row", name("A"), 2, None), 1, None)))


class Orders(unittest.TestCase):
    def test_ascending_where_nothing_leads(self):
        self.assertEqual(order(graph({"C": "", "A": "", "B": ""}, ATOM)), ["A", "B", "C"])

    def test_behind_those_to_which_they_lead(self):
        self.assertEqual(order(graph({"A": "B", "B": "C", "C": ""}, ATOM)), ["C", "B", "A"])
        self.assertEqual(order(graph({"A": "D", "B": "", "C": "A", "D": ""}, ATOM)), ["B", "D", "A", "C"])

    def test_as_early_as_possible(self):
        self.assertEqual(order(graph({"A": "C", "B": "", "C": "", "D": ""}, ATOM)), ["B", "C", "A", "D"])
        self.assertEqual(order(graph({"A": "F", "B": "E", "C": "", "E": "", "F": "B"}, ATOM)), list("CEBFA"))

    def test_only_what_leads_directly_counts(self):
        spec = Spec({"A": ("and", ATOM, name("B")), "B": ("and", ATOM, name("A")), "C": name("D"), "D": name("A")})
        self.assertEqual(order(spec), ["A", "B", "D", "C"])

    def test_not_founded(self):
        for equations in ({"A": name("A")}, {"A": ("row", ONE, 0, None)}, {"A": ATOM, "B": ("or", ONE, name("B"))}):
            with self.assertRaises(NotFounded):
                order(Spec(equations))

    def test_the_known_ones(self):
        for word in WORDS:
            self.assertIsNone(fault(known(word)), word)
            self.assertEqual(sorted(order(known(word))), known(word).names())
        self.assertEqual(order(known("maps")), ["R", "Q", "M"])
        self.assertEqual(order(known("partitions")), ["Q", "P"])
        self.assertEqual(emptyable(known("maps")), ["M"])
        self.assertEqual(emptyable(known("binary")), ["B"])

    def test_it_is_new(self):
        spec = known("maps")
        order(spec).clear()
        self.assertEqual(order(spec), ["R", "Q", "M"])


if __name__ == "__main__":
    unittest.main()
