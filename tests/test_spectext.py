"""Promise 1.7: texts of specifications."""

import unittest

import brute
from speciesmill.errors import BadText
from speciesmill.spec import Spec, known
from speciesmill.spectext import spec_of, spec_text

NONE, ONE, ATOM = ("none",), ("one",), ("atom",)
A = ("name", "A")
TEXTS = {
    "words": "W = row((atom + atom))\n",
    "trees": "T = (atom * row(T))\n",
    "rooted": "R = (atom * set(R))\n",
    "binary": "B = (one + (atom * (B * B)))\n",
    "partitions": "P = set(Q)\nQ = set(atom, 1, -)\n",
    "permutations": "P = set(Q)\nQ = ring(atom)\n",
    "necklaces": "N = ring((atom + atom))\n",
    "compositions": "C = row(D)\nD = row(atom, 1, -)\n",
    "maps": "M = set(Q)\nQ = ring(R)\nR = (atom * set(R))\n",
}
EXPRESSIONS = {
    "none": NONE,
    "one": ONE,
    "atom": ATOM,
    "A": A,
    "(atom + one)": ("or", ATOM, ONE),
    "(A * A)": ("and", A, A),
    "row(atom)": ("row", ATOM, 0, None),
    "set(atom)": ("set", ATOM, 0, None),
    "ring(atom)": ("ring", ATOM, 1, None),
    "row(atom, 1, -)": ("row", ATOM, 1, None),
    "set(atom, 2, -)": ("set", ATOM, 2, None),
    "ring(atom, 2, -)": ("ring", ATOM, 2, None),
    "row(atom, 0, 0)": ("row", ATOM, 0, 0),
    "set(atom, 0, 30)": ("set", ATOM, 0, 30),
    "ring(atom, 1, 1)": ("ring", ATOM, 1, 1),
    "row(atom, 30, 30)": ("row", ATOM, 30, 30),
    "set(atom, 2, 5)": ("set", ATOM, 2, 5),
    "ring(atom, 30, -)": ("ring", ATOM, 30, None),
    "row(atom, 9, 10)": ("row", ATOM, 9, 10),
    "((one + A) * set(row(atom, 2, 5)))": ("and", ("or", ONE, A), ("set", ("row", ATOM, 2, 5), 0, None)),
    "ring(((A + A) + (A * none)), 3, -)": ("ring", ("or", ("or", A, A), ("and", A, NONE)), 3, None),
}


def equations_of(spec):
    return {name: spec.expression(name) for name in spec.names()}


def nested(levels):
    return "row(" * levels + "atom" + ")" * levels


class Texts(unittest.TestCase):
    def test_the_known_ones_and_back(self):
        for word, text in TEXTS.items():
            self.assertEqual(spec_text(known(word)), text)
            self.assertEqual(equations_of(spec_of(text)), equations_of(known(word)))

    def test_each_kind_of_expression_and_back(self):
        for text, expression in EXPRESSIONS.items():
            spec = Spec({"A": expression})
            self.assertEqual(spec_text(spec), "A = " + text + "\n")
            back = spec_of("A = " + text + "\n")
            self.assertIsInstance(back, Spec)
            self.assertEqual(equations_of(back), {"A": expression})

    def test_lines_ascend(self):
        spec = Spec({"B": A, "Ab": ONE, "A": ATOM, "A1": ("name", "B")})
        self.assertEqual(spec_text(spec), "A = atom\nA1 = B\nAb = one\nB = A\n")
        self.assertEqual(equations_of(spec_of(spec_text(spec))), equations_of(spec))

    def test_long_names_and_twelve_lines(self):
        equations = {"N" + letter * 7: ATOM for letter in "abcdefghijkl"}
        text = spec_text(Spec(equations))
        self.assertEqual(text.count("\n"), 12)
        self.assertEqual(equations_of(spec_of(text)), equations)

    def test_the_greatest_depth(self):
        spec = spec_of("A = " + nested(10) + "\n")
        self.assertEqual(spec_text(spec), "A = " + nested(10) + "\n")
        for text in ("(" * 10 + "atom" + " + one)" * 10, "(one * " * 10 + "atom" + ")" * 10):
            self.assertEqual(spec_text(spec_of(f"A = {text}\n")), f"A = {text}\n")

    def test_specifications_that_are_not_well_founded(self):
        for text in ("A = A\n", "A = row(one)\n", "A = B\nB = A\n", "A = none\n"):
            self.assertEqual(spec_text(spec_of(text)), text)

    def test_many_and_back(self):
        for spec in brute.random_specs(3, 60, 5):
            self.assertEqual(equations_of(spec_of(spec_text(spec))), equations_of(spec))


class BadTexts(unittest.TestCase):
    def bad(self, line, *texts):
        for text in texts:
            with self.assertRaises(BadText) as caught:
                spec_of(text)
            self.assertEqual(caught.exception.line, line, repr(text))

    def bad_expression(self, *texts):
        for text in texts:
            self.bad(1, f"A = {text}\n", f"A = {text}\nB = atom\n", f"A = {text}\nB = \n")
            self.bad(2, f"A = atom\nB = {text}\nC = atom\n", f"A = atom\nB = {text}\nC = atom")

    def test_the_empty_text(self):
        self.bad(1, "", "\n", " ", "\n\n")

    def test_a_last_line_without_its_newline(self):
        self.bad(1, "A = atom")
        self.bad(2, "A = atom\nB = atom", "A = atom\nB", "A = atom\n ")
        self.bad(3, "A = atom\nB = atom\nC = atom")
        self.bad(1, "A = \nB = atom")

    def test_spaces(self):
        self.bad(1, "A= atom\n", "A =atom\n", "A  = atom\n", "A =  atom\n", " A = atom\n", "A = atom \n", "A\t=\tatom\n")
        self.bad_expression("(atom +atom)", "(atom+ atom)", "( atom + atom)", "(atom + atom )", "(atom  + atom)")
        self.bad_expression("(atom *atom)", "(atom*atom)", "(atom *  atom)", "row (atom)", "row( atom)", "row(atom )")
        self.bad_expression("row(atom,1, 2)", "row(atom, 1,2)", "row(atom , 1, 2)", "row(atom, 1 , 2)", "row(atom, 1, 2 )")

    def test_numbers(self):
        for number in ("01", "00", "+1", "-1", "1.0", "", " 1", "x", "31", "99", "100", "030", "\u0661", "\u00b2", "-"):
            self.bad_expression(f"row(atom, {number}, -)", f"set(atom, {number}, 30)")
        for number in ("02", "+2", "-2", "31", "", "None", "--", "1" * 5000, "9" * 100, "\u0662"):
            self.bad_expression(f"row(atom, 2, {number})", f"ring(atom, 2, {number})")

    def test_bounds_that_are_none(self):
        self.bad_expression("row(atom, 2, 1)", "set(atom, 30, 29)", "ring(atom, 3, 2)", "set(atom, 1, 0)")
        self.bad_expression("ring(atom, 0, -)", "ring(atom, 0, 0)", "ring(atom, 0, 3)")

    def test_the_usual_bounds_are_not_told(self):
        self.bad_expression("row(atom, 0, -)", "set(atom, 0, -)", "ring(atom, 1, -)")

    def test_bounds_that_are_told_in_part(self):
        self.bad_expression("row(atom, 1)", "row(atom, 1, )", "row(atom, )", "row(atom, 1, 2, 3)", "row(atom, -, 2)", "row()")

    def test_nesting(self):
        self.bad_expression(nested(11), nested(12), nested(5000), "(" * 100000, "row(" * 50000, "(" * 11 + "atom")
        self.bad_expression("(atom + " * 11 + "atom" + ")" * 11, "(" * 11 + "atom" + " * one)" * 11)

    def test_parentheses_and_words(self):
        self.bad_expression("(atom + atom", "atom)", "(atom)", "((atom + atom))", "atom + atom", "(atom + atom + atom)")
        self.bad_expression("(atom - atom)", "(atom | atom)", "row", "row(", "row(atom", "set)", "rows(atom)", "atoms")
        self.bad_expression("Atom(one)", "nonee", "ROW(atom)", "(+)", "(atom + )", "", "row[atom]", "one one", "ring()")

    def test_names(self):
        self.bad(1, "a = atom\n", "1 = atom\n", " = atom\n", "Abcdefghi = atom\n", "A_ = atom\n", "\u00c4 = atom\n")
        self.bad(1, "A\u00e4 = atom\n", "atom = atom\n", "A", "A\n", "A =\n", "A = \n", "= atom\n", "(A) = atom\n")
        self.bad_expression("Abcdefghi", "a", "A_", "\u00c4", "A\u00e4", "9A")

    def test_other_characters(self):
        self.bad(1, "A = atom\r\n", "A = atom\r", "A = atom\x0bB = atom\n", "A = atom\u2028\n", "A = atom;\n", "\ufeffA = atom\n")
        self.bad(1, "A = at\u00f6m\n", "A = atom\x00\n", "A = atom\x1c\n", "A = (atom \u00d7 atom)\n", "A = (atom\u00a0+ atom)\n")

    def test_names_that_do_not_ascend(self):
        self.bad(2, "A = atom\nA = atom\n", "B = atom\nA = atom\n", "B = atom\nA = atom\nC = x\n", "Aa = one\nAB = one\n")
        self.bad(3, "A = atom\nC = atom\nB = atom\n", "A = one\nAb = one\nA1 = one\n")

    def test_empty_lines(self):
        self.bad(1, "\nA = atom\n", "\n\nA = atom\n")
        self.bad(2, "A = atom\n\n", "A = atom\n\nB = atom\n")

    def test_the_first_wrong_line_counts(self):
        self.bad(2, "A = atom\nB = x\nC = y\n", "A = atom\nB = x\nA = atom\n", "C = atom\nB = x\nA = \n")

    def test_names_that_are_not_there(self):
        self.bad(1, "A = B\n", "A = set((atom * B), 1, -)\n", "A = row(B, 0, 0)\nC = D\n")
        self.bad(2, "A = B\nB = C\n", "A = atom\nB = (A + (A * X))\nC = Y\n")

    def test_names_that_are_not_there_only_if_all_lines_are_of_the_form(self):
        self.bad(2, "A = B\nC = x\n", "A = B\nC = atom", "B = X\nA = atom\n", "A = B\n\n")
        self.bad(13, "".join(f"N{number} = X\n" for number in "0123456789ABC"))

    def test_more_than_twelve_lines(self):
        lines = [f"N{letter} = atom\n" for letter in "abcdefghijklmnop"]
        self.assertEqual(len(spec_of("".join(lines[:12])).names()), 12)
        for many in (13, 14, 16):
            self.bad(13, "".join(lines[:many]))
        self.bad(13, "".join(lines[:12]) + "x", "".join(lines[:12]) + "\n", "".join(lines[:12]) + "Na = atom\n")


if __name__ == "__main__":
    unittest.main()
