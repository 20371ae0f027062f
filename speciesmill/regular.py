"""Regular specifications, whose counts for all sizes follow from a quotient of polynomials."""

from speciesmill.errors import NoSuchName, NotRegular
from speciesmill.founded import fault
from speciesmill.linear import NOTHING, WHOLE, Line, solved
from speciesmill.quotient import added, all_powers, multiplied, taken
from speciesmill.spec import inner_of, used

ATOM = ((0, 1), (1,))


def is_regular(spec):
    """Whether the counts of a specification follow by linear equations from the names that belong together."""
    if fault(spec) is not None:
        return False
    reached = _reached(spec)
    return all([_is_linear(spec.expression(name), _together(reached, name)) for name in spec.names()])


def _reached(spec):
    """For each name itself and those that it needs, in a list."""
    reached = {}
    for name in spec.names():
        found = [name]
        todo = [name]
        while todo:
            for other in used(spec.expression(todo.pop())):
                if other not in found:
                    found.append(other)
                    todo.append(other)
        reached[name] = found
    return reached


def _together(reached, name):
    """A name and those that belong with it. (If it does not need itself, it does not stand in its expression.)"""
    return [other for other in reached[name] if name in reached[other]]


def _is_linear(expression, group):
    """Whether an expression has no two factors with names of a group, no rows of such, and no sets and rings."""
    word = expression[0]
    if word in ("set", "ring"):
        return False
    inner = inner_of(expression)
    many = len([part for part in inner if any([name in group for name in used(part)])])
    if (word == "and" and many > 1) or (word == "row" and many > 0):
        return False
    return all([_is_linear(part, group) for part in inner])


def quotient(spec, name):
    """The quotient whose items are the numbers of unlabelled structures of a name, for all sizes."""
    if name not in spec.names():
        raise NoSuchName("the specification has no such name")
    if not is_regular(spec):
        raise NotRegular("the specification is not regular")
    reached = _reached(spec)
    told = {}
    # A name that another one needs, and that does not belong with it, reaches fewer names.
    for other in sorted(reached[name], key=lambda one: len(reached[one])):
        if other not in told:
            lines = {one: _line(spec.expression(one), told) for one in _together(reached, other)}
            told.update(solved(lines))
    return told[name]


def _line(expression, told):
    """The line of an expression, in which the names stand whose quotients are not told."""
    word = expression[0]
    if word == "one":
        return Line(WHOLE, {})
    if word == "atom":
        return Line(ATOM, {})
    if word == "name":
        name = expression[1]
        return Line(told[name], {}) if name in told else Line(NOTHING, {name: WHOLE})
    inner = [_line(part, told) for part in inner_of(expression)]
    if word == "or":
        return inner[0].joined(inner[1])
    if word == "and":
        first, second = inner
        return second.scaled(first.constant) if second.factors else first.scaled(second.constant)
    if word == "row":
        return Line(_row(inner[0].constant, expression[2], expression[3]), {})
    return Line(NOTHING, {})


def _row(member, least, most):
    """The quotient of rows within bounds, from that of a member."""
    begin = WHOLE
    for _ in range(least):
        begin = multiplied(begin, member)
    if most is None:
        return multiplied(begin, all_powers(member))
    others = WHOLE
    for _ in range(most - least):
        others = added(WHOLE, multiplied(others, member))
    return multiplied(begin, others)


def parting_size(first, name, second, other):
    """The least size for which two names of regular specifications have unlike numbers; None if there is none."""
    top, _ = taken(quotient(first, name), quotient(second, other))
    for size, many in enumerate(top):
        if many != 0:
            return size
    return None


def alike(first, name, second, other):
    """Whether two names of regular specifications have the same numbers for all sizes."""
    return parting_size(first, name, second, other) is None
