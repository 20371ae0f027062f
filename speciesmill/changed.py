"""Specifications made from others: with one atom marked, and with other structures in the place of atoms."""

from speciesmill.checks import check_names
from speciesmill.errors import BadSpec
from speciesmill.spec import MEMBER_WORDS, Spec, inner_of, used


def marked(spec):
    """The specification with the same names, and for each with one more, for its structures with one atom marked."""
    check_names(spec, [])
    equations = {}
    for name in spec.names():
        expression = spec.expression(name)
        _check_rows(expression)
        if _marked_name(name) in spec.names():
            raise BadSpec("the name for marked structures is there already")
        equations[name] = expression
        equations[_marked_name(name)] = _marked(expression)
    return Spec(equations)


def _marked_name(name):
    """The name for the structures of a name with one atom marked."""
    return name + "m"


def _check_rows(expression):
    """Raises BadSpec if an expression contains a row of which the marked one cannot be told."""
    if expression[0] == "row" and expression[3] != 0 and (expression[2] > 1 or expression[3] is not None):
        raise BadSpec("a row has other bounds than from 0 or 1 on")
    for part in inner_of(expression):
        _check_rows(part)


def _marked(expression):
    """The expression of the structures of an expression with one atom marked."""
    word = expression[0]
    if word == "atom":
        return expression
    if word == "name":
        return ("name", _marked_name(expression[1]))
    if word == "or":
        return ("or", _marked(expression[1]), _marked(expression[2]))
    if word == "and":
        _, first, second = expression
        return ("or", ("and", _marked(first), second), ("and", first, _marked(second)))
    if word in MEMBER_WORDS and expression[3] != 0:
        return _marked_members(expression)
    return ("none",)


def _marked_members(expression):
    """As _marked, for a row, set or ring that may have members: one of them is marked, the others are left."""
    word, member, least, most = expression
    if word == "row":
        others = ("row", member, 0, None)
        return ("and", others, ("and", _marked(member), others))
    # The others of a ring stand behind the marked member one after the other.
    fewer = None if most is None else most - 1
    return ("and", _marked(member), ("set" if word == "set" else "row", member, max(0, least - 1), fewer))


def replaced(spec, expression):
    """The specification with an expression in the place of each atom."""
    there = spec.names()
    if any([name not in there for name in used(expression)]):
        raise BadSpec("the specification has not all names of the expression")
    return Spec({name: _replaced(spec.expression(name), expression) for name in there})


def _replaced(expression, substitute):
    """An expression with another one in the place of each atom."""
    if expression[0] == "atom":
        return substitute
    parts = [_replaced(part, substitute) for part in inner_of(expression)]
    return (expression[0], *parts, *expression[1 + len(parts):])
