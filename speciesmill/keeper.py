"""How many labelled structures are kept by the permutations of a shape."""

from math import comb

from speciesmill.founded import can_be_empty, emptyable, order
from speciesmill.helpers import divisors, power, totient
from speciesmill.spec import MEMBER_WORDS, inner_of


class KeptPart:
    """An expression, with the numbers of structures and of rows and sets of structures that are kept."""

    def __init__(self, formula, inner, is_empty):
        self.formula = formula
        self.inner = inner
        self.is_empty = is_empty
        self.by_shape = {}
        self.row_numbers = {}
        self.set_numbers = {}


class Keeper:
    """The numbers of structures of all names of a well-founded specification that are kept, for each shape."""

    def __init__(self, spec):
        self.roots = {}
        self.empty = emptyable(spec)
        self.known_splits = {}
        for name in order(spec):
            self.roots[name] = self.add_part(spec.expression(name))

    def add_part(self, expression):
        """The part of an expression; with it come those of the expressions in it."""
        inner = [self.add_part(one) for one in inner_of(expression)]
        return KeptPart(expression, inner, can_be_empty(expression, self.empty))

    def told(self, name, shape):
        """The number of structures of a name that a permutation of a shape keeps.

        Smaller shapes are told first, and for each shape the names stand behind those to which they lead. So all that
        is asked of a name in an expression is there, and calls nest no deeper than expressions do.
        """
        for smaller in self.shapes_within(shape):
            for other in self.roots:
                self.item(self.roots[other], smaller)
        return self.item(self.roots[name], shape)

    def shapes_within(self, shape):
        """The shapes on which the number of a shape depends, by their sizes: some cycles, cut alike or not."""
        found = {}
        for cycles, _, _ in self.splits(shape):
            for times in divisors(min(cycles, default=1)):
                if all([length % times == 0 for length in cycles]):
                    found[cut(cycles, times)] = True
        return sorted(list(found), key=sum)

    def splits(self, shape):
        """All ways to share cycles among two: the cycles of both, and how many ways look so."""
        if shape not in self.known_splits:
            self.known_splits[shape] = splits_of(shape)
        return self.known_splits[shape]

    def item(self, part, shape):
        """The number of structures of a part that are kept."""
        if shape not in part.by_shape:
            part.by_shape[shape] = self.next_item(part, shape)
        return part.by_shape[shape]

    def next_item(self, part, shape):
        """As item, for the first time."""
        word = part.formula[0]
        if word == "one":
            return 1 if shape == () else 0
        if word == "atom":
            return 1 if shape == (1,) else 0
        if word == "name":
            return self.item(self.roots[part.formula[1]], shape)
        if word == "or":
            return self.item(part.inner[0], shape) + self.item(part.inner[1], shape)
        if word == "and":
            return self.pairs(part.inner[0], part.inner[1], shape)
        if word in MEMBER_WORDS:
            return self.within(part, shape)
        return 0

    def pairs(self, first, second, shape):
        """The number of pairs that are kept: each cycle lies in one of both structures."""
        total = 0
        for one, other, ways in self.splits(shape):
            # What would stand beside an empty structure that there is not may not be told yet.
            if (one or first.is_empty) and (other or second.is_empty):
                total += ways * self.item(first, one) * self.item(second, other)
        return total

    def within(self, part, shape):
        """The number of rows, sets or rings that are kept, of all numbers of members within the bounds."""
        least, most = part.formula[2], part.formula[3]
        greatest = max(sum(shape), 1)
        last = greatest if most is None else min(greatest, most)
        return sum([self.exactly(part, members, shape) for members in range(least, last + 1)])

    def exactly(self, part, members, shape):
        """The number of rows, sets or rings with so many members that are kept; two or more are never empty."""
        inner = part.inner[0]
        if members == 0:
            return 1 if shape == () else 0
        if members == 1:
            return self.item(inner, shape)
        if part.formula[0] == "row":
            return self.rows(inner, 1, members, shape)
        if part.formula[0] == "set":
            return self.sets(inner, members, shape)
        # Of the turns of a ring, so many as totient tells make each member come back just after `times` of them.
        turned = [totient(times) * self.rows(inner, times, members // times, shape) for times in divisors(members)]
        return sum(turned) // members

    def moved(self, inner, times, shape):
        """In how many ways a member with others is moved round, so many in all, if these are their cycles.

        The permutation done so many times keeps the member, which has of each cycle one of so many equal parts.
        """
        if any([length % times > 0 for length in shape]):
            return 0
        return power(times, len(shape)) * self.item(inner, cut(shape, times))

    def rows(self, inner, times, members, shape):
        """The number of rows of so many members, each of which stands for those with which it is moved round."""
        if members == 1:
            return self.moved(inner, times, shape)
        key = (times, members, shape)
        if key not in inner.row_numbers:
            total = 0
            for one, other, ways in self.splits(shape):
                first = self.moved(inner, times, one) if one and other else 0
                if first > 0:
                    total += ways * first * self.rows(inner, times, members - 1, other)
            inner.row_numbers[key] = total
        return inner.row_numbers[key]

    def sets(self, inner, members, shape):
        """The number of sets of so many members that are kept.

        The member with the first number of the first cycle is moved round with others; the rest is a set, too.
        """
        if shape == ():
            return 1 if members == 0 else 0
        key = (members, shape)
        if key not in inner.set_numbers:
            total = 0
            for times in [number for number in divisors(shape[0]) if number <= members]:
                for one, other, ways in self.splits(shape[1:]):
                    others = self.sets(inner, members - times, other)
                    # One of the members that are moved round is known: it has the first number.
                    if others > 0:
                        total += ways * others * self.moved(inner, times, (shape[0], *one)) // times
            inner.set_numbers[key] = total
        return inner.set_numbers[key]


def cut(shape, times):
    """The shape with so many times shorter cycles."""
    return tuple([length // times for length in shape])


def splits_of(shape):
    """As Keeper.splits."""
    found = [((), (), 1)]
    for length in sorted(set(shape)):
        many = shape.count(length)
        found = [
            ((length,) * chosen + one, (length,) * (many - chosen) + other, ways * comb(many, chosen))
            for one, other, ways in found
            for chosen in range(many + 1)
        ]
    return found
