"""Ways through structures that may be nested deep."""

import random
import unittest

from samples import ATOM, EXAMPLE, ONE, a, tree
from speciesmill.walk import atoms_of, flat, folded, inner_parts, with_atoms, with_parts

PARTS = [
    (ONE, ()), (ATOM, ()), (a(3), ()), (("left", ATOM), (ATOM,)), (("right", ONE), (ONE,)), (("and", ATOM, ONE), (ATOM, ONE)),
    (("row", ()), ()), (("row", (ATOM, ONE)), (ATOM, ONE)), (("set", (a(1),)), (a(1),)), (("ring", (a(1), a(2))), (a(1), a(2))),
]


def nested(source, levels):
    """Nested tuples with numbers in the places 0 and 1 of each tuple, and tuples behind them."""
    many = source.choice([0, 0, 1, 2]) if levels else 0
    return (source.randint(0, 1), source.randint(0, 2), *[nested(source, levels - 1) for _ in range(many)])


class Walk(unittest.TestCase):
    def test_parts(self):
        for structure, parts in PARTS:
            self.assertEqual(inner_parts(structure), parts)
            self.assertEqual(with_parts(structure, list(parts)), structure)
        self.assertEqual(with_parts(("set", (ONE, ONE)), [ATOM]), ("set", (ATOM,)))
        self.assertEqual(with_parts(("and", ONE, ONE), [ATOM, a(2)]), ("and", ATOM, a(2)))

    def test_atoms(self):
        self.assertEqual(atoms_of(EXAMPLE), [a(2), a(1), a(3)])
        self.assertEqual(atoms_of(ONE), [])
        self.assertEqual(with_atoms(EXAMPLE, [a(7), ATOM, a(5)]), tree(7, tree(None), tree(5)))

    def test_folded(self):
        self.assertEqual(folded(EXAMPLE, lambda part, inner: 1 + sum(inner)), 9)
        self.assertEqual(folded(EXAMPLE, with_parts), EXAMPLE)
        seen = []
        folded(("and", a(1), ("left", a(2))), lambda part, inner: seen.append(part))
        self.assertEqual(seen, [a(1), a(2), ("left", a(2)), ("and", a(1), ("left", a(2)))])

    def test_flat_rows_compare_as_nested_tuples_do(self):
        source = random.Random(12)
        some = [nested(source, 4) for _ in range(150)] + [((), ()), ((), (), ()), (((),), ()), (((), ()),), ((),), ()]
        some.extend([((0,), 1), ((0, 0), 0), ((0, 1),), ((0,), 0), ((0,), 0, 5), ((),), ((10**30,), 0)])
        for one in some:
            for other in some:
                try:
                    wanted = (one < other, one == other)
                except TypeError:
                    continue
                self.assertEqual((flat(one) < flat(other), flat(one) == flat(other)), wanted, (one, other))


if __name__ == "__main__":
    unittest.main()
