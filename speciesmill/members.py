"""Sets without labels, whose members are told by their places: pairs of a size and an index."""

from math import comb


def repeated(allowed, times):
    """In how many ways so many members are chosen out of the allowed ones, which may come again."""
    if times == 0:
        return 1
    return comb(allowed + times - 1, times)


class Bags:
    """How many sets there are of members with given counts. There are no members of size 0.

    `tables[s][m][n]` is the number of sets of m members and the size n, in all, whose members have the size s or
    greater ones. Each table ends with the greatest m for which there is room.
    """

    def __init__(self, counts):
        self.counts = counts
        empty = [1] + [0] * (len(counts) - 1)
        self.tables = [[empty] for _ in range(len(counts) + 1)]
        for least in range(len(counts) - 1, 0, -1):
            for members in range(1, (len(counts) - 1) // least + 1):
                row = [self.with_allowed(least, counts[least], members, size) for size in range(len(counts))]
                self.tables[least].append(row)

    def with_allowed(self, least, allowed, members, size):
        """The sets of members from a size on, of whom those of this size are out of so many allowed ones."""
        greater = self.tables[least + 1]
        total = 0
        for times in range(max(0, members - len(greater) + 1), min(members, size // least) + 1):
            total += repeated(allowed, times) * greater[members - times][size - least * times]
        return total

    def exactly(self, members, size, first):
        """The sets of so many members and a size, none of which has a place before the first one."""
        least, index = first
        return self.with_allowed(least, self.counts[least] - index, members, size)

    def within(self, least, most, size, first):
        """The sets of a size with a number of members within the bounds, none of which is before a place."""
        greatest = size // first[0]
        last = greatest if most is None else min(greatest, most)
        return sum([self.exactly(members, size, first) for members in range(max(0, least), last + 1)])
