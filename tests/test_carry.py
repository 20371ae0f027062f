"""Promise 7.8: structures carried from one specification to another one."""

import unittest

from samples import ATOM, EXAMPLE, ONE, TWO, a, numbers, tree
from speciesmill.carry import carried
from speciesmill.counts import unlabelled_counts
from speciesmill.errors import BadStructure, NoPartner, NoSuchName, NotFounded, TooGreat
from speciesmill.listing import labelled_list, unlabelled_list
from speciesmill.rank import index_of, structure_at
from speciesmill.regular import alike
from speciesmill.spec import Spec, known

COMPOSITIONS, ROOTED, TREES, BINARY, WORDS = (known(word) for word in ("compositions", "rooted", "trees", "binary", "words"))
BROKEN = Spec({"A": ("name", "A")})
# As many as compositions.
OTHERS = Spec({"A": ("or", ONE, ("and", ATOM, ("row", TWO, 0, None)))})
# As many as binary trees, and as trees with one atom more.
ROWS = Spec({"T": ("and", ATOM, ("name", "F")), "F": ("row", ("name", "T"), 0, None)})
ONES = Spec({"C": ("or", ONE, ("and", ATOM, ("name", "D"))), "D": ("or", ONE, ("and", ATOM, ("name", "D")))})


class Carried(unittest.TestCase):
    def there_and_back(self, first, name, second, other, most):
        for size in range(most + 1):
            found = unlabelled_list(first, name, size)
            images = [carried(first, name, second, other, structure) for structure in found]
            self.assertEqual(images, unlabelled_list(second, other, size))
            self.assertEqual([carried(second, other, first, name, structure) for structure in images], found)

    def test_alike(self):
        self.assertTrue(alike(COMPOSITIONS, "C", OTHERS, "A"))
        self.there_and_back(COMPOSITIONS, "C", OTHERS, "A", 8)
        self.there_and_back(COMPOSITIONS, "D", Spec({"A": ("row", ATOM, 1, None)}), "A", 12)

    def test_not_regular(self):
        self.there_and_back(BINARY, "B", ROWS, "F", 7)
        self.there_and_back(TREES, "T", ROWS, "T", 7)
        self.there_and_back(known("partitions"), "P", Spec({"A": ("set", ("ring", ATOM, 1, None), 0, None)}), "A", 9)
        self.there_and_back(known("permutations"), "P", known("partitions"), "P", 9)
        self.there_and_back(ROOTED, "R", ROOTED, "R", 6)

    def test_more_on_one_side(self):
        for size in range(7):
            few, many = unlabelled_list(ROOTED, "R", size), unlabelled_list(TREES, "T", size)
            self.assertEqual([carried(ROOTED, "R", TREES, "T", structure) for structure in few], many[:len(few)])
            self.assertEqual([carried(TREES, "T", ROOTED, "R", structure) for structure in many[:len(few)]], few)
            for structure in many[len(few):]:
                with self.assertRaises(NoPartner):
                    carried(TREES, "T", ROOTED, "R", structure)
        with self.assertRaises(NoPartner):
            carried(COMPOSITIONS, "C", ONES, "C", unlabelled_list(COMPOSITIONS, "C", 2)[1])

    def test_none_on_the_other_side(self):
        for structure in unlabelled_list(WORDS, "W", 3):
            with self.assertRaises(NoPartner):
                carried(WORDS, "W", Spec({"A": ("none",)}), "A", structure)
        with self.assertRaises(NoPartner):
            carried(WORDS, "W", TREES, "T", ("row", ()))
        self.assertEqual(carried(WORDS, "W", BINARY, "B", ("row", ())), ("left", ONE))

    def test_names_of_one_specification(self):
        spec = known("maps")
        for size in range(1, 6):
            trees = unlabelled_list(spec, "R", size)
            self.assertEqual([carried(spec, "R", spec, "M", one) for one in trees], unlabelled_list(spec, "M", size)[:len(trees)])

    def test_a_labelled_structure(self):
        # Its index is that among the labelled ones on its labels; what it is carried to is unlabelled.
        self.assertEqual(index_of(ROOTED, "R", EXAMPLE), 3)
        self.assertEqual(carried(ROOTED, "R", TREES, "T", tree(1, tree(2), tree(3))), unlabelled_list(TREES, "T", 3)[0])
        words = unlabelled_list(WORDS, "W", 3)
        self.assertEqual([carried(ROOTED, "R", WORDS, "W", one) for one in labelled_list(ROOTED, "R", 3)[:8]], words)
        self.assertEqual(carried(ROOTED, "R", WORDS, "W", tree(20, tree(7), tree(30))), words[3])
        with self.assertRaises(NoPartner):
            carried(ROOTED, "R", WORDS, "W", labelled_list(ROOTED, "R", 3)[8])
        with self.assertRaises(NoPartner):
            carried(ROOTED, "R", ROOTED, "R", EXAMPLE)

    def test_great_sizes(self):
        many = unlabelled_counts(BINARY, "B", 30)[30]
        for index in (0, 1, many // 3, many - 1):
            structure = structure_at(BINARY, "B", 30, index, False)
            other = carried(BINARY, "B", ROWS, "F", structure)
            self.assertEqual(other, structure_at(ROWS, "F", 30, index, False))
            self.assertEqual(carried(ROWS, "F", BINARY, "B", other), structure)

    def test_twice(self):
        structure = unlabelled_list(COMPOSITIONS, "C", 4)[5]
        self.assertEqual(carried(COMPOSITIONS, "C", OTHERS, "A", structure), carried(COMPOSITIONS, "C", OTHERS, "A", structure))


class Errors(unittest.TestCase):
    def raises(self, error, *arguments):
        with self.assertRaises(error, msg=arguments):
            carried(*arguments)

    def test_of_the_first_one(self):
        good = tree(None)
        for second, other in ((TREES, "T"), (TREES, "X"), (BROKEN, "A"), (BROKEN, "X")):
            for structure in (good, None, tree(*numbers(1))):
                self.raises(NotFounded, BROKEN, "A", second, other, structure)
                self.raises(NotFounded, BROKEN, "X", second, other, structure)
                self.raises(NoSuchName, ROOTED, "X", second, other, structure)
                self.raises(NoSuchName, ROOTED, None, second, other, structure)
            for structure in (None, 1, "R", (), [], ONE, ATOM, a(1), tree(1, tree(1)), tree(1, tree(None)), tree(1, tree(3), tree(2)),
                              tree(None, tree(None, tree(None)), tree(None)), ["and", ATOM, ("set", ())], ("row", ())):
                self.raises(BadStructure, ROOTED, "R", second, other, structure)
            self.raises(TooGreat, ROOTED, "R", second, other, tree(None, *[tree(None)] * 30))
            self.raises(TooGreat, ROOTED, "R", second, other, tree(1, *[tree(label) for label in range(2, 32)]))

    def test_of_the_second_one(self):
        for structure in (tree(None), EXAMPLE, tree(None, *[tree(None)] * 29)):
            self.raises(NotFounded, ROOTED, "R", BROKEN, "A", structure)
            self.raises(NotFounded, ROOTED, "R", BROKEN, "X", structure)
            self.raises(NoSuchName, ROOTED, "R", TREES, "X", structure)
            self.raises(NoSuchName, ROOTED, "R", TREES, None, structure)
            self.raises(NoPartner, ROOTED, "R", Spec({"A": ("none",)}), "A", structure)


if __name__ == "__main__":
    unittest.main()
