"""Expressions and structures that several tests ask about."""

ONE, ATOM = ("one",), ("atom",)
TWO = ("or", ATOM, ATOM)
WORDS = ("words", "trees", "rooted", "binary", "partitions", "permutations", "necklaces", "compositions", "maps")
# What is none of the numbers that are asked for.
WRONG = (-1, True, False, None, "1", b"1", 1.0, (1,), [1], {})
# Each kind of expression, also with bounds and with members without atoms.
KINDS = [
    ("none",), ONE, ATOM, ("or", ONE, ATOM), ("or", ATOM, ("and", ATOM, ATOM)), ("and", ONE, ATOM), ("and", ("none",), ATOM),
    ("and", ("set", TWO, 0, None), ("row", ATOM, 0, 2)), ("and", ("or", ONE, TWO), ("or", TWO, ONE)),
    ("row", TWO, 0, None), ("row", ATOM, 0, 0), ("row", ("or", ONE, TWO), 0, 1), ("row", ("or", ONE, TWO), 1, 1),
    ("row", ("set", ATOM, 1, None), 2, 3), ("row", ("ring", TWO, 1, None), 2, None), ("row", TWO, 2, 3),
    ("set", TWO, 0, None), ("set", ATOM, 0, 0), ("set", ("or", ONE, TWO), 0, 1), ("set", ("or", ONE, TWO), 1, 1),
    ("set", ("row", TWO, 1, None), 0, None), ("set", ("ring", ATOM, 1, None), 2, 3), ("set", ("row", ATOM, 1, 3), 2, None),
    ("ring", TWO, 1, None), ("ring", ("or", ONE, TWO), 1, 1), ("ring", ("row", TWO, 1, None), 2, 3),
    ("ring", ("set", ATOM, 1, None), 1, None), ("ring", ("or", TWO, ("and", ATOM, TWO)), 2, None),
    ("set", ("set", ("set", ATOM, 1, None), 1, None), 1, None), ("ring", ("ring", ATOM, 1, None), 1, None),
]


def a(label):
    return ("atom", label)


def tree(label, *branches):
    """A tree of "rooted"; without a label if it is None."""
    return ("and", ATOM if label is None else a(label), ("set", branches))


def numbers(many):
    return tuple(range(1, many + 1))


# The structure of 2.10.
EXAMPLE = tree(2, tree(1), tree(3))
