"""Expressions, and specifications: systems of equations of names and expressions."""

from speciesmill.errors import BadSpec, NoSuchName
from speciesmill.helpers import are_bounds

CAPITALS = "ABCDEFGHIJKLMNOPQRSTUVWXYZ"
NAME_CHARACTERS = "ABCDEFGHIJKLMNOPQRSTUVWXYZabcdefghijklmnopqrstuvwxyz0123456789"
LONGEST_NAME = 8
MOST_NAMES = 12
MOST_MEMBERS = 30
MOST_DEEP = 10
PLAIN_WORDS = ("none", "one", "atom")
PAIR_WORDS = ("or", "and")
MEMBER_WORDS = ("row", "set", "ring")


def is_name(value):
    """Whether a value is a name for a kind of structures."""
    if not isinstance(value, str) or not 1 <= len(value) <= LONGEST_NAME:
        return False
    if value[0] not in CAPITALS:
        return False
    return all([character in NAME_CHARACTERS for character in value])


def is_expression(value):
    """Whether a value, of any kind, is an expression."""
    return _is_expression_at(value, 0)


def _is_expression_at(value, level):
    # The level is asked first: a value that is nested without end in sight is not followed.
    if level > MOST_DEEP or not isinstance(value, tuple) or len(value) == 0:
        return False
    word = value[0]
    if not isinstance(word, str):
        return False
    if word in PLAIN_WORDS:
        return len(value) == 1
    if word == "name":
        return len(value) == 2 and is_name(value[1])
    if word in PAIR_WORDS:
        if len(value) != 3:
            return False
        return _is_expression_at(value[1], level + 1) and _is_expression_at(value[2], level + 1)
    if word in MEMBER_WORDS:
        if len(value) != 4 or not _are_told_bounds(word, value[2], value[3]):
            return False
        return _is_expression_at(value[1], level + 1)
    return False


def _are_told_bounds(word, least, most):
    """Whether two values are the bounds of an expression with this word."""
    if not are_bounds(word, least, most):
        return False
    return least <= MOST_MEMBERS and (most is None or most <= MOST_MEMBERS)


def inner_of(expression):
    """The expressions that stand directly in an expression, in order."""
    if expression[0] in PAIR_WORDS:
        return [expression[1], expression[2]]
    if expression[0] in MEMBER_WORDS:
        return [expression[1]]
    return []


def depth(expression):
    """How deep an expression is nested: 0 if no expression stands in it."""
    inner = inner_of(expression)
    if not inner:
        return 0
    return 1 + max([depth(part) for part in inner])


def used(expression):
    """The names that stand in an expression, in ascending order."""
    return sorted(_names_in(expression))


def _names_in(expression):
    """The names that stand in an expression, each once, as the keys of a dict."""
    if expression[0] == "name":
        return {expression[1]: True}
    names = {}
    for part in inner_of(expression):
        names.update(_names_in(part))
    return names


def _are_equations(value):
    """Whether a value, of any kind, is a dict from which a specification is made."""
    if not isinstance(value, dict) or not 1 <= len(value) <= MOST_NAMES:
        return False
    for name in value:
        if not is_name(name) or not is_expression(value[name]):
            return False
    for name in value:
        for other in used(value[name]):
            if other not in value:
                return False
    return True


class Spec:
    """A specification: each of its names stands for the structures of an expression."""

    def __init__(self, equations):
        if not _are_equations(equations):
            raise BadSpec("this is not a dict of 1 to 12 names with expressions of these names")
        self._equations = {name: equations[name] for name in sorted(equations)}

    def names(self):
        """The names, in ascending order."""
        return list(self._equations)

    def expression(self, name):
        """The expression of a name."""
        if not isinstance(name, str) or name not in self._equations:
            raise NoSuchName("the specification has no such name")
        return self._equations[name]


def known(name):
    """The specification that is known by a word."""
    table = _known_equations()
    if not isinstance(name, str) or name not in table:
        raise NoSuchName("no specification is known by this word")
    return Spec(table[name])


def _known_equations():
    """The equations of each known specification."""
    atom = ("atom",)
    two_atoms = ("or", atom, atom)
    rooted = ("and", atom, ("set", ("name", "R"), 0, None))
    two_trees = ("and", ("name", "B"), ("name", "B"))
    all_of_q = ("set", ("name", "Q"), 0, None)
    return {
        "words": {"W": ("row", two_atoms, 0, None)},
        "trees": {"T": ("and", atom, ("row", ("name", "T"), 0, None))},
        "rooted": {"R": rooted},
        "binary": {"B": ("or", ("one",), ("and", atom, two_trees))},
        "partitions": {"P": all_of_q, "Q": ("set", atom, 1, None)},
        "permutations": {"P": all_of_q, "Q": ("ring", atom, 1, None)},
        "necklaces": {"N": ("ring", two_atoms, 1, None)},
        "compositions": {"C": ("row", ("name", "D"), 0, None), "D": ("row", atom, 1, None)},
        "maps": {"M": all_of_q, "Q": ("ring", ("name", "R"), 1, None), "R": rooted},
    }
