"""Counts of the names and expressions of a specification."""

from speciesmill.checks import check_members, check_names, check_size
from speciesmill.errors import BadCounts
from speciesmill.founded import can_be_empty, emptyable, order
from speciesmill.spec import MEMBER_WORDS, inner_of, used
from speciesmill.tables import LABELLED, RIGID, UNLABELLED, Members, mode_of, pair_item

GREATEST_SIZE = 60


class Part:
    """An expression with its counts, as far as they are known."""

    def __init__(self, formula, inner, is_empty):
        self.formula = formula
        self.inner = inner
        self.is_empty = is_empty
        self.counts = []
        self.members = None


class Tally:
    """The counts of all names of a well-founded specification, and of parts that are added before they grow."""

    def __init__(self, spec, mode):
        self.mode = mode
        self.parts = []
        self.roots = {}
        self.empty = emptyable(spec)
        for name in order(spec):
            self.roots[name] = self.add_part(spec.expression(name))

    def add_part(self, expression):
        """The part of an expression; with it come those of the expressions in it."""
        inner = [self.add_part(one) for one in inner_of(expression)]
        part = Part(expression, inner, can_be_empty(expression, self.empty))
        if expression[0] in MEMBER_WORDS:
            part.members = Members(expression[0], expression[3], inner[0].counts, self.mode)
        self.parts.append(part)
        return part

    def grow(self, most):
        """Tells all counts up to a size.

        The names come first, each behind those to which it leads: so an item of a part in them is asked for only if
        it can be told. Then all items of this size can be told, and the next size may ask for any of them.
        """
        for size in range(most + 1):
            for name in self.roots:
                self.item(self.roots[name], size)
            for part in self.parts:
                self.item(part, size)

    def item(self, part, size):
        """How many structures of a part have a size, if all smaller sizes of all parts are told."""
        if len(part.counts) == size:
            part.counts.append(self.next_item(part, size))
        return part.counts[size]

    def next_item(self, part, size):
        """As item, for the first time."""
        word = part.formula[0]
        if word == "one":
            return 1 if size == 0 else 0
        if word == "atom":
            return 1 if size == 1 else 0
        if word == "name":
            return self.item(self.roots[part.formula[1]], size)
        if word == "or":
            return self.item(part.inner[0], size) + self.item(part.inner[1], size)
        if word == "and":
            return self.next_pairs(part, size)
        if word in MEMBER_WORDS:
            return self.next_members(part, size)
        return 0

    def next_pairs(self, part, size):
        """As next_item, for an "and"."""
        first, second = part.inner
        # A part may have this size only beside an empty one. Otherwise its item may depend on this very one.
        if second.is_empty:
            self.item(first, size)
        if first.is_empty:
            self.item(second, size)
        return pair_item(first.counts, second.counts, size, self.mode)

    def next_members(self, part, size):
        """As next_item, for a "row", "set" or "ring"."""
        least, most = part.formula[2], part.formula[3]
        part.members.grow()
        if least <= 1 and most != 0:
            self.item(part.inner[0], size)
        return part.members.within(least, most, size)


def _name_part(spec, name, most, mode):
    """The part of a name, with its counts up to a size."""
    check_names(spec, [name])
    check_size(most, GREATEST_SIZE)
    tally = Tally(spec, mode)
    tally.grow(most)
    return tally.roots[name]


def labelled_counts(spec, name, most):
    """The counts of the labelled structures of a name, up to a size."""
    return _name_part(spec, name, most, LABELLED).counts


def unlabelled_counts(spec, name, most):
    """The counts of the unlabelled structures of a name, up to a size."""
    return _name_part(spec, name, most, UNLABELLED).counts


def rigid_counts(spec, name, most):
    """The counts of the rigid unlabelled structures of a name, up to a size."""
    return _name_part(spec, name, most, RIGID).counts


def counts_of(spec, expression, most, labelled):
    """The counts of the structures of an expression with names of a specification, up to a size."""
    check_names(spec, used(expression))
    check_size(most, GREATEST_SIZE)
    check_members(spec, expression)
    tally = Tally(spec, mode_of(labelled))
    part = tally.add_part(expression)
    tally.grow(most)
    return part.counts


def member_counts(spec, name, most, labelled):
    """For each size up to a greatest one: how many structures of a name have 0, 1, 2 and so on members."""
    part = _name_part(spec, name, most, mode_of(labelled))
    if part.members is None:
        raise BadCounts("the expression of this name is no row, set or ring")
    least, greatest = part.formula[2], part.formula[3]
    table = []
    for size in range(most + 1):
        row = []
        for members in range(max(size, 1) + 1):
            allowed = members >= least and (greatest is None or members <= greatest)
            row.append(part.members.exactly(members, size) if allowed else 0)
        table.append(row)
    return table
