"""Which names have structures without atoms, and whether a specification is well-founded."""

from speciesmill.errors import NotFounded
from speciesmill.helpers import more_than_one
from speciesmill.spec import MEMBER_WORDS, inner_of


def can_be_empty(expression, empty):
    """Whether an expression has a structure without atoms, if the names in `empty` have one."""
    word = expression[0]
    if word == "one":
        return True
    if word == "name":
        return expression[1] in empty
    if word == "or":
        return can_be_empty(expression[1], empty) or can_be_empty(expression[2], empty)
    if word == "and":
        return can_be_empty(expression[1], empty) and can_be_empty(expression[2], empty)
    if word in MEMBER_WORDS:
        return expression[2] == 0 or can_be_empty(expression[1], empty)
    return False


def emptyable(spec):
    """The names that have a structure without atoms, in ascending order."""
    empty = {}
    grows = True
    while grows:
        grows = False
        for name in spec.names():
            if name not in empty and can_be_empty(spec.expression(name), empty):
                empty[name] = True
                grows = True
    return sorted(empty)


def is_endless(expression, empty):
    """Whether members without atoms may stand in a row, set or ring of several in an expression."""
    if expression[0] in MEMBER_WORDS and more_than_one(expression[3]):
        if can_be_empty(expression[1], empty):
            return True
    return any([is_endless(part, empty) for part in inner_of(expression)])


def _led_to(expression, empty):
    """The names of which a structure can be a whole one of an expression, as the keys of a dict."""
    word = expression[0]
    if word == "name":
        return {expression[1]: True}
    leading = []
    if word == "or":
        leading = [expression[1], expression[2]]
    elif word == "and":
        if can_be_empty(expression[2], empty):
            leading.append(expression[1])
        if can_be_empty(expression[1], empty):
            leading.append(expression[2])
    elif word in MEMBER_WORDS and expression[2] <= 1 and expression[3] != 0:
        leading = [expression[1]]
    names = {}
    for part in leading:
        names.update(_led_to(part, empty))
    return names


def _steps_of(spec, empty):
    """For each name the names to which it leads directly, in ascending order."""
    return {name: sorted(_led_to(spec.expression(name), empty)) for name in spec.names()}


def _distances(steps, goal):
    """For each name from which steps lead to a goal, the least number of them."""
    distances = {goal: 0}
    length = 0
    grows = True
    while grows:
        grows = False
        length += 1
        for name in steps:
            if name not in distances and any([distances.get(other) == length - 1 for other in steps[name]]):
                distances[name] = length
                grows = True
    return distances


def _round_from(steps, start):
    """The shortest round that begins with a name, the least of several, or None."""
    distances = _distances(steps, start)
    ways = [distances[name] for name in steps[start] if name in distances]
    if not ways:
        return None
    names = [start]
    for distance in range(min(ways), 0, -1):
        names.append(min([name for name in steps[names[-1]] if distances.get(name) == distance]))
    return tuple(names)


def fault(spec):
    """Why a specification is not well-founded, or None if it is."""
    empty = emptyable(spec)
    for name in spec.names():
        if is_endless(spec.expression(name), empty):
            return ("members", name)
    steps = _steps_of(spec, empty)
    for name in spec.names():
        names = _round_from(steps, name)
        if names is not None:
            return ("round", names)
    return None


def order(spec):
    """All names, each behind those to which it leads directly, and else in ascending order."""
    if fault(spec) is not None:
        raise NotFounded("the specification is not well-founded")
    steps = _steps_of(spec, emptyable(spec))
    placed = []
    while len(placed) < len(steps):
        free = [name for name in steps if name not in placed]
        placed.append(min([name for name in free if all([other in placed for other in steps[name]])]))
    return placed
