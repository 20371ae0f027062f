"""How many pairs, and how many rows, sets and rings of each number of members, follow from counts.

Everything here is told by sizes that ascend: what has a size follows from counts up to this size.
"""

from math import comb, factorial, gcd

from speciesmill.helpers import divisors, moebius, totient

LABELLED = "labelled"
UNLABELLED = "unlabelled"
RIGID = "rigid"


def mode_of(labelled):
    """The mode of counts for the argument `labelled`."""
    return LABELLED if labelled else UNLABELLED


def ways_to_share(first, size, mode):
    """In how many ways the labels of a size are shared, if one part gets so many of them."""
    return comb(size, first) if mode == LABELLED else 1


def pair_item(first, second, size, mode):
    """How many pairs of structures with these counts have a size.

    Counts that end before this size are those of a kind that is not known yet. Such an item counts as 0: where it
    may be missing, it stands beside an item that is 0.
    """
    total = 0
    for at in range(max(0, size - len(second) + 1), min(size, len(first) - 1) + 1):
        total += ways_to_share(at, size, mode) * first[at] * second[size - at]
    return total


class Members:
    """The numbers of rows, sets or rings with each number of members, from the counts of the members.

    The counts are a list that may grow after this was made. `table[m][n]` is the number of rows of m members and the
    size n, or of sets where the mode is not LABELLED; all the others follow from these. Its first two lists are told
    by m alone: the last list is the counts themselves.
    """

    def __init__(self, word, most, counts, mode):
        self.word = word
        self.most = most
        self.counts = counts
        self.mode = mode
        self.table = [[], counts]

    def grow(self):
        """Tells the next size. The counts of all smaller ones must be there."""
        size = len(self.table[0])
        self.table[0].append(1 if size == 0 else 0)
        limit = size if self.most is None else min(size, self.most)
        shared = self.shared_counts(size)
        for members in range(2, limit + 1):
            if members == len(self.table):
                self.table.append([0] * size)
            if self.word == "set" and self.mode != LABELLED:
                self.table[members].append(self.next_sets(members, size))
            else:
                self.table[members].append(self.next_rows(shared, members, size))

    def shared_counts(self, size):
        """For each size of a first member the number of such members, and of their labels."""
        return [0] + [ways_to_share(at, size, self.mode) * self.counts[at] for at in range(1, size)]

    def next_rows(self, shared, members, size):
        """The rows of two members or more: a first one, and a row of the others."""
        others = self.table[members - 1]
        return sum([shared[at] * others[size - at] for at in range(1, size - members + 2)])

    def next_sets(self, members, size):
        """The sets of two members or more without labels.

        If each of the m members of each set is taken out in turn, then a member that stands in the set k times is
        taken out k times: as one of at least 1, at least 2 .. at least k equal ones. So m times the number of sets is
        the sum of the ways to put so many equal ones to a set of the others. In rigid sets equal ones are ruled out,
        therefore the signs alternate.
        """
        total = 0
        for equal in range(1, members + 1):
            others = self.table[members - equal]
            last = (size - members + equal) // equal
            ways = sum([self.counts[at] * others[size - equal * at] for at in range(1, last + 1)])
            if self.mode == RIGID and equal % 2 == 0:
                ways = -ways
            total += ways
        return total // members

    def rests(self, placed, least, size):
        """In how many ways further members of a size follow so many, so that the bounds allow them all.

        They are a row, or a set if these are sets. The size is one that was told, and members are not empty.
        """
        last = size if self.most is None else min(size, self.most - placed)
        total = 0
        for members in range(max(0, least - placed), last + 1):
            ways = self.table[members][size]
            if self.word == "set" and self.mode == LABELLED:
                ways = ways // factorial(members)
            total += ways
        return total

    def exactly(self, members, size):
        """How many have exactly so many members and a size that was told by `grow`.

        The members are such as the bounds allow, and not more than the size, or than 1 if that is 0.
        """
        if self.word == "row" or (self.word == "set" and self.mode != LABELLED):
            return self.table[members][size]
        if self.word == "set":
            return self.table[members][size] // factorial(members)
        if self.mode == LABELLED:
            return self.table[members][size] // members
        return self.rings(members, size)

    def rings(self, members, size):
        """The rings without labels: rows that are turns of one another count as one."""
        total = 0
        for times in divisors(gcd(members, size)):
            factor = moebius(times) if self.mode == RIGID else totient(times)
            total += factor * self.table[members // times][size // times]
        return total // members

    def within(self, least, most, size):
        """How many have a size that was told, and a number of members within the bounds."""
        greatest = max(size, 1)
        last = greatest if most is None else min(greatest, most)
        return sum([self.exactly(members, size) for members in range(least, last + 1)])
